/-
  A range over an iterator that hands over what it reads, where the round's body writes it: 'Rd k x W' is what the iterator has read of W ahead of round k.
  slices.Backward of sixteen bytes.
  locksmithref8: double.
  modes: a block doubled.
  modes.ending.
  modes.Mac.
  locksmithref8: double, the call.
-/
import Derived.Test.YtdmcnblnoiahcaaMdB
import Derived.RangeFuncFrom
import Derived.RangeFuncBound
import Derived.Test.YtdmcnblnoiahcaaMdD
import Derived.Test.YtdmcnblnoiahcaaHeldL
import Derived.Test.YtdmcnblnoiahcaaMdOpen
namespace Go.Proofs.Ytdmcnblnoiahcaa
open Go.RowKit Go.Shelf
set_option linter.unusedSimpArgs false
set_option linter.unusedVariables false
namespace Md

def SeqSees {α : Type} (F : Fence) (n : Nat) (P : Program) (g : Nat) (lb : Array Value) (encs : Nat → α → Array Value) (Rd : Nat → α → World → Prop) (Kp : World → World → Prop) (N : Nat) (w : World) : Prop :=
  ∀ (l : Nat) (J : Nat → World → Prop) (W : World), Below w.heap.size w W → (∀ k V, J k V → J k V.drew) → (∀ k V, J k V → Kp W V) →
    (∀ k x V, k < N → J k V → Rd k x V → YieldAt F (n - 1) P l (encs k x) V fun e V' => e = .returned (.bool true) ∧ J (k + 1) V') →
    J 0 W → CallsIn F n P g (#[.func (.yield l) #[] #[]] ++ lb) W fun e W' => (∃ v, e = .returned v) ∧ J N W'

theorem own_drew {I : Nat → World → Prop} {B : Nat} (hI : OwnFrom B I) {k : Nat} {W : World} (h : I k W) : I k W.drew :=
  hI k W W.drew none h ⟨rfl, rfl, rfl, Nat.le_refl _, fun _ _ _ => rfl⟩ (fun r e => by cases e)

theorem wpIn_rangeFunc_sees {α : Type} {F : Fence} {n : Nat} {P : Program} {g : Operand} {ps : Array Tmp} {assign body : Code} {Q : Exit → Act → World → Prop} {a : Act} {w : World}
    (hro : F.round = none) (h1 : 1 ≤ n) {gf : Nat} {lb : Array Value} (hg : a.eval g = .func (.func gf) #[] lb) (hFg : F.fn gf) (eg : ∀ args w, (callFunc gf args).run P w = .ok (.enter gf args) w)
    {encs : Nat → α → Array Value} {Rd : Nat → α → World → Prop} {Kp : World → World → Prop} {N : Nat} (hseq : SeqSees F (n - 1) P gf lb encs Rd Kp N w)
    (hps : ∀ k x, (encs k x).size = ps.size)
    (hRd : ∀ k x W l o o', W.heap[l]? = some o → o.isCells = false → Rd k x W → Rd k x (W.putObj l o'))
    (I : Nat → World → Prop) (hI : OwnFrom w.heap.size I) (h0 : I 0 w) (hKp : ∀ k V W, I k V → Below w.heap.size w W → Kp W V) (a₁ : Nat → α → Act)
    (hassign : ∀ (l k : Nat) (x : α) (W : World) (K : Act → World → Prop), K (a₁ k x) W →
      assign.wpIn (F.inRound l) (n - 1 - 1) P (Exit.then K (fun _ _ _ => False)) { tmps := (ps.zip (encs k x)).foldl (fun t (p, v) => t.setIfInBounds p v) a.tmps, defers := [] } W)
    (hbody : ∀ (l k : Nat) (x : α) (W : World), k < N → I k W → Rd k x W → body.wpIn (F.inRound l) (n - 1 - 1) P (Exit.then (fun _ W' => KeepsOthers W W' ∧ I (k + 1) W') (fun _ _ _ => False)) (a₁ k x) W)
    (hdone : ∀ (D : Nat) (W : World), w.heap.size ≤ D → I N W → W.heap[D]? = some (.deferred (some [])) → Q .normal { a with defers := { target := .collected D, args := #[] } :: a.defers } W) :
    (Code.rangeFunc g ps assign body).wpIn F n P Q a w := by
  refine wpIn_rangeFunc ?_
  intro fn hfn
  rw [hro]
  obtain ⟨rec, hrec⟩ : ∃ rec : LoopState → Loop, rec = fun st => { state := st, pending := none, fn, tmps := a.tmps, params := ps, assign, body, defers := w.heap.size } := ⟨_, rfl⟩
  obtain ⟨W1, hW1⟩ : ∃ W1, (w.alloc (.deferred (some []))).alloc (.loop (rec .ready)) = W1 := ⟨_, rfl⟩
  have hL1 : W1.heap[w.heap.size + 1]? = some (.loop (rec .ready)) := by
    rw [← hW1]; have := World.alloc_heap_new (w.alloc (.deferred (some []))) (.loop (rec .ready)); rwa [World.size_alloc] at this
  have hK1 : W1.heap[w.heap.size]? = some (.deferred (some [])) := by
    rw [← hW1]; exact (Below.heap_alloc _ _ _ (by simp)).trans (World.alloc_heap_new w _)
  have hI1 : I 0 W1 := by rw [← hW1]; exact hI.alloc _ (hI.alloc _ h0)
  have hb1 : Below w.heap.size w W1 := by
    rw [← hW1]; exact ((Below.refl _ w).alloc (Nat.le_refl _) _).alloc (by simp) _
  refine ⟨w.heap.size + 1, [{ target := .collected w.heap.size, args := #[] }], W1, { target := .fn (.func gf) lb, args := #[.func (.yield (w.heap.size + 1)) #[] #[]] }, W1, gf,
    #[.func (.yield (w.heap.size + 1)) #[] #[]] ++ lb, W1, ?_, ?_, ?_, ?_, fun _ => h1, ?_⟩
  · rw [← hW1, hrec]; exact run_enterLoop_outer _ _ _ _ _
  · simp only [resolve, hg]
    simp [go_sem]
  · intro f' hf'; simp [Target.leads] at hf'; subst hf'; exact hFg
  · simp [invoke, go_sem, eg]
  · refine (hseq (w.heap.size + 1)
      (fun k W => I k W ∧ W.heap[w.heap.size + 1]? = some (.loop (rec .ready)) ∧ W.heap[w.heap.size]? = some (.deferred (some [])))
      W1 hb1 (fun k V h => ⟨own_drew hI h.1, h.2.1, h.2.2⟩) (fun k V h => hKp k V W1 h.1 hb1) ?_ ⟨hI1, hL1, hK1⟩).mono ?_
    · rintro k x W hkN ⟨hi, hl, hk⟩ hrd
      have hlt : w.heap.size + 1 < W.heap.size := (Array.getElem?_eq_some_iff.1 hl).1
      have hy := run_yield (P := P) (args := encs k x) hl (by rw [hrec]; simp [hps])
      rw [hrec] at hy
      refine ⟨fn, _, assign, body, hy, roundIn_of_wpIn hfn (hassign _ k x W _ ⟨_, run_beginRound hl (by rw [hrec]), ?_⟩)⟩
      have hl2 : (W.putObj (w.heap.size + 1) (.loop { rec .ready with state := .busy })).heap[w.heap.size + 1]? = some (.loop { rec .ready with state := .busy }) := World.putObj_heap_same hlt
      have hk2 : (W.putObj (w.heap.size + 1) (.loop { rec .ready with state := .busy })).heap[w.heap.size]? = some (.deferred (some [])) := (World.putObj_heap_other (by omega)).trans hk
      refine wpIn_mono (hbody _ k x _ hkN (hI.putObj _ hi (by omega) hl rfl) (hRd _ _ _ _ _ _ hl rfl hrd)) ?_
      rintro e a3 W3 hp
      cases e with
      | normal =>
        obtain ⟨hk3, hi3⟩ := hp
        have hl3 := hk3.same _ _ hl2 rfl
        have hr := run_endRound (P := P) none hl3
        have hl4 : (W3.putObj (w.heap.size + 1) (.loop (rec .ready))).heap[w.heap.size + 1]? = some (.loop (rec .ready)) := World.putObj_heap_same (Array.getElem?_eq_some_iff.1 hl3).1
        rw [hrec] at hr hl3 hl4 ⊢
        exact ⟨_, _, hr, rfl, hI.putObj _ hi3 (by omega) hl3 rfl, hl4, (World.putObj_heap_other (by omega)).trans (hk3.same _ _ hk2 rfl)⟩
      | ret => exact hp.elim
      | exit id => exact hp.elim
      | goto t => exact hp.elim
      | panic ch => exact hp.elim
      | outgrown => exact hp.elim
    · rintro e W2 ⟨⟨v, rfl⟩, hi, hl, hk⟩
      exact ⟨none, _, by have := run_endLoop (P := P) hl (by rw [hrec]; simp); rw [hrec] at this; exact this, hdone _ _ (Nat.le_refl _) (hI.putObj _ hi (by omega) hl rfl) ((World.putObj_heap_other (by omega)).trans hk)⟩

end Md
end Go.Proofs.Ytdmcnblnoiahcaa

namespace Go.Proofs.Ytdmcnblnoiahcaa
open Go.RowKit Go.Shelf
set_option linter.unusedSimpArgs false
set_option linter.unusedVariables false
attribute [local go_sem] Oper.semAt_some
namespace Md

/-- what the iterator's variable holds, and that there are bytes -/
def BwdKp (Bs b : Nat) (_ V : World) : Prop := V.cell? ⟨Bs, 0, none⟩ = some (.slice (some ⟨b, 0, none⟩) 16 16) ∧ ∀ i, i < 16 → ∃ x : UInt8, V.cell? ⟨b, i, none⟩ = some (bv x)
def bwdEnc (k : Nat) (x : UInt8) : Array Value := #[.int .i64 (15 - (k : Int)), bv x]
def BwdRd (b : Nat) (k : Nat) (x : UInt8) (W : World) : Prop := W.cell? ⟨b, 15 - k, none⟩ = some (bv x)

set_option maxRecDepth 100000 in
set_option maxHeartbeats 2000000 in
theorem bwd1_in (F : Fence) (n : Nat) (h7 : F.fn 61) (hro : F.round = none) (hn : 1 ≤ n) (l Bs b : Nat) (J : Nat → World → Prop) (W : World)
    (hJd : ∀ k V, J k V → J k V.drew) (hKp : ∀ k V, J k V → BwdKp Bs b W V)
    (hY : ∀ k x V, k < 16 → J k V → BwdRd b k x V → YieldAt F (n - 1) Try.prog l (bwdEnc k x) V fun e V' => e = .returned (.bool true) ∧ J (k + 1) V')
    (h0 : J 0 W) :
    CallsIn F n Try.prog 61 #[.func (.yield l) #[] #[], .pointer (some ⟨Bs, 0, none⟩)] W fun e W' => (∃ v, e = .returned v) ∧ J 16 W' := by
  refine callsIn_of_wp Try.func61 rfl h7 ?_ hro
  simp only [Try.ntmps61, List.size_toArray, List.length_cons, List.length_nil, Nat.reduceAdd, Nat.reduceSub, Array.replicate_succ, Array.replicate_zero, List.push_toArray, List.append_toArray, List.nil_append, List.cons_append]
  have hc0 : W.cell? ⟨Bs, 0, none⟩ = some (.slice (some ⟨b, 0, none⟩) 16 16) := (hKp 0 W h0).1
  gi_wp2
  gi_loopw [3] (fun i wr => ∃ k : Nat, k ≤ 16 ∧ i = .int .i64 (15 - (k : Int)) ∧ J k wr)
    (fun i _ => ((intOf i) + 1).toNat)
  case atStart => exact ⟨0, Nat.zero_le _, rfl, h0⟩
  case round =>
    obtain ⟨k, hk, rfl, hJs⟩ := hrel
    clear hc0
    have hc1 : wr.cell? ⟨Bs, 0, none⟩ = some (.slice (some ⟨b, 0, none⟩) 16 16) := (hKp k wr hJs).1
    by_cases hlt : k < 16
    · obtain ⟨x, hx⟩ := (hKp k wr hJs).2 (15 - k) (by omega)
      obtain ⟨fn, tmps, assign, body, hy, hR⟩ := hY k x wr hlt hJs hx
      unfold bwdEnc at hy
      have hx' : wr.cell? ⟨b, ((15 - (k : Int)).toNat), none⟩ = some (bv x) := by rw [show (15 - (k : Int)).toNat = 15 - k by omega]; exact hx
      unfold bv at hx hx' hy
      have hge : (0 : Int) ≤ 15 - (k : Int) := by omega
      have hlt2 : (15 - (k : Int)) < 16 := by omega
      have HR := hide hR
      clear hR
      gi_wp2
      all_goals (refine (unhide HR).mono ?_)
      all_goals (rintro e W3 ⟨rfl, hJ3⟩)
      all_goals (have HJ3 := hide hJ3; clear hJ3; gi_wp2; go_roundw)
      all_goals first
        | exact ⟨k + 1, by omega, by simp; omega, unhide HJ3⟩
        | (simp [intOf]; omega)
    · obtain rfl : k = 16 := by omega
      gi_wp2
      go_end0
      exact ⟨⟨_, rfl⟩, hJs⟩

theorem bwd_sees (F : Fence) (n : Nat) (h7 : F.fn 61) (hro : F.round = none) (hn : 1 ≤ n) (Bs b : Nat) (w : World) :
    SeqSees F n Try.prog 61 #[.pointer (some ⟨Bs, 0, none⟩)] bwdEnc (BwdRd b) (BwdKp Bs b) 16 w :=
  fun l J W _ hJd hKp hY h0 => bwd1_in F n h7 hro hn l Bs b J W hJd hKp hY h0

end Md
end Go.Proofs.Ytdmcnblnoiahcaa

namespace Go.Proofs.Ytdmcnblnoiahcaa
open Go.RowKit
set_option linter.unusedSimpArgs false
set_option linter.unusedVariables false
namespace Md
open Ae (zero16 Arr ag_one range_only mixd mixd_zero mixd_all mixd_at mixd_set gt gt_some done13)

/-- byte i, shifted to the left by a bit, with the bit that comes in from the next -/
def shl1 (s : List UInt8) (i : Nat) : UInt8 := (gt s i <<< 1) ^^^ (if i < 15 then gt s (i + 1) >>> 7 else 0)
/-- the whole block shifted, and the field's polynomial where a bit goes -/
def dbl (s : List UInt8) : List UInt8 := (List.range 16).map fun i => if i = 15 then shl1 s 15 ^^^ (gt s 0 >>> 7) * 135 else shl1 s i
def shlA (s : List UInt8) : List UInt8 := (List.range 16).map (shl1 s)
theorem dbl_length (s : List UInt8) : (dbl s).length = 16 := by simp [dbl]
theorem shlA_length (s : List UInt8) : (shlA s).length = 16 := by simp [shlA]
theorem shlA_at (s : List UInt8) (i : Nat) (h : i < 16) : (shlA s)[i]? = some (shl1 s i) := by unfold shlA; rw [List.getElem?_map, List.getElem?_range h]; rfl
theorem top_bit (y : UInt8) : y >>> 7 = 0 ∨ y >>> 7 = 1 := by
  have h : ∀ n : Fin 256, (UInt8.ofNat n.val) >>> 7 = 0 ∨ (UInt8.ofNat n.val) >>> 7 = 1 := by decide +kernel
  have := h ⟨y.toNat, y.toNat_lt⟩
  simpa using this
theorem or_xor (x y : UInt8) : (x <<< 1) ||| (y >>> 7) = (x <<< 1) ^^^ (y >>> 7) := by
  have h : ∀ n : Fin 256, ((UInt8.ofNat n.val) <<< 1) ||| (1 : UInt8) = ((UInt8.ofNat n.val) <<< 1) ^^^ (1 : UInt8) := by decide +kernel
  rcases top_bit y with e | e <;> rw [e]
  · simp
  · have := h ⟨x.toNat, x.toNat_lt⟩
    simpa using this
theorem shl_bv (x : UInt8) : IntKind.u8.wrap ((x.toNat : Int) * 2) = ((x <<< 1).toNat : Int) := by
  have h : ∀ n : Fin 256, IntKind.u8.wrap ((n.val : Int) * 2) = (((UInt8.ofNat n.val) <<< 1).toNat : Int) := by decide +kernel
  have := h ⟨x.toNat, x.toNat_lt⟩
  simpa using this
theorem shr_bv (x : UInt8) : (x.toNat : Int) / 128 = ((x >>> 7).toNat : Int) := by
  have h : ∀ n : Fin 256, (n.val : Int) / 128 = (((UInt8.ofNat n.val) >>> 7).toNat : Int) := by decide +kernel
  have := h ⟨x.toNat, x.toNat_lt⟩
  simpa using this
theorem dbl_eq (s : List UInt8) : dbl s = if gt s 0 >>> 7 = 1 then (shlA s).set 15 (shl1 s 15 ^^^ 135) else shlA s := by
  apply List.ext_getElem?
  intro j
  by_cases hj : j < 16
  · have h1 : (dbl s)[j]? = some (if j = 15 then shl1 s 15 ^^^ (gt s 0 >>> 7) * 135 else shl1 s j) := by unfold dbl; rw [List.getElem?_map, List.getElem?_range hj]; rfl
    rw [h1]
    rcases top_bit (gt s 0) with e | e
    · rw [e, if_neg (show ¬ (0 : UInt8) = 1 by decide), shlA_at s j hj]
      by_cases h15 : j = 15
      · subst h15; simp
      · rw [if_neg h15]
    · rw [e, if_pos rfl, List.getElem?_set]
      by_cases h15 : j = 15
      · subst h15
        rw [if_pos rfl, if_pos rfl, if_pos (by rw [shlA_length]; decide)]
        rfl
      · rw [if_neg h15, if_neg (fun e2 => h15 e2.symm), shlA_at s j hj]
  · rw [List.getElem?_eq_none (by rw [dbl_length]; omega)]
    split
    · rw [List.getElem?_eq_none (by rw [List.length_set, shlA_length]; omega)]
    · rw [List.getElem?_eq_none (by rw [shlA_length]; omega)]

end Md
end Go.Proofs.Ytdmcnblnoiahcaa

namespace Go.Proofs.Ytdmcnblnoiahcaa
open Go.RowKit Go.Shelf
set_option linter.unusedSimpArgs false
set_option linter.unusedVariables false
attribute [local go_sem] Oper.semAt_some
namespace Md
open Ae (zero16 Arr ag_one range_only mixd mixd_zero mixd_all mixd_length gt gt_some two zeros_eq)

def carryAt (s : List UInt8) (k : Nat) : UInt8 := if k = 0 then (gt s 0 >>> 7) * 135 else gt s (16 - k) >>> 7
theorem carry_next (s : List UInt8) (k : Nat) (h : k < 16) : carryAt s (k + 1) = gt s (15 - k) >>> 7 := by
  unfold carryAt; rw [if_neg (by omega), show 16 - (k + 1) = 15 - k by omega]
theorem dbl_at (s : List UInt8) (i : Nat) (h : i < 16) : (dbl s)[i]? = some (if i = 15 then shl1 s 15 ^^^ (gt s 0 >>> 7) * 135 else shl1 s i) := by
  unfold dbl; rw [List.getElem?_map, List.getElem?_range h]; rfl
theorem dbl_carry (s : List UInt8) (k : Nat) (h : k < 16) : (dbl s)[15 - k]? = some ((gt s (15 - k) <<< 1) ^^^ carryAt s k) := by
  rw [dbl_at s _ (by omega)]
  congr 1
  unfold carryAt shl1
  by_cases hk : k = 0
  · subst hk; simp
  · rw [if_neg (by omega), if_pos (by omega), if_neg hk, show 15 - k + 1 = 16 - k by omega]
theorem mixd_back (s : List UInt8) (k : Nat) (hs : s.length = 16) (h : k < 16) : (mixd s (dbl s) (16 - k))[15 - k]? = some (gt s (15 - k)) := by
  unfold mixd
  rw [List.getElem?_append_left (by simp; omega), List.getElem?_take, if_pos (by omega), gt_some s _ (by omega)]
theorem mixd_down (s d : List UInt8) (k : Nat) (hs : s.length = 16) (hd : d.length = 16) (h : k < 16) (x : UInt8) (hx : d[15 - k]? = some x) : (mixd s d (16 - k)).set (15 - k) x = mixd s d (16 - (k + 1)) := by
  apply List.ext_getElem?
  intro j
  rw [List.getElem?_set]
  unfold mixd
  rcases Nat.lt_trichotomy j (15 - k) with h1 | h1 | h1
  · rw [if_neg (by omega), List.getElem?_append_left (by simp; omega), List.getElem?_append_left (by simp; omega), List.getElem?_take, List.getElem?_take, if_pos (by omega), if_pos (by omega)]
  · subst h1
    rw [if_pos rfl, if_pos (by simp; omega), List.getElem?_append_right (by simp; omega), List.getElem?_drop, ← hx]
    congr 1
    simp; omega
  · rw [if_neg (by omega)]
    by_cases hj : j < 16 - k
    · omega
    · rw [List.getElem?_append_right (by simp; omega), List.getElem?_append_right (by simp; omega), List.getElem?_drop, List.getElem?_drop]
      congr 1
      simp; omega
theorem mul135 (x : UInt8) : IntKind.u8.wrap (((x >>> 7).toNat : Int) * 135) = (((x >>> 7) * 135).toNat : Int) := by
  rcases top_bit x with e | e <;> rw [e] <;> decide +kernel
theorem arr_own {β : Type} (B : Nat) (t : TypeId) (f : β → List UInt8) : Own (fun s W => Arr W B t (f s)) := fun s X Y row hs hg hrow =>
  (hg.block B hs.lt (fun e' => by obtain ⟨o, ho, hc⟩ := hrow B e'.symm; rw [hs.out] at ho; cases ho; cases hc)).trans hs

set_option maxRecDepth 100000 in
theorem backward_in (F : Fence) (n : Nat) (h5 : F.fn 41) (hro : F.round = none) (a : Option Addr) (len cap : Nat) (w : World) :
    CallsIn F n Try.prog 41 #[.slice a len cap] w fun e w' => e = .returned (.func (.func 61) #[] #[.pointer (some ⟨w.heap.size, 0, none⟩)]) ∧
      w' = w.alloc (.cells #[.slice a len cap] 22) := by
  refine callsIn_of_wp Try.func41 rfl h5 ?_ hro
  simp only [Try.ntmps41, List.size_toArray, List.length_cons, List.length_nil, Nat.reduceAdd, Nat.reduceSub, Array.replicate_succ, Array.replicate_zero, List.push_toArray, List.append_toArray, List.nil_append, List.cons_append]
  gi_wp2
  go_ret
  exact ⟨rfl, rfl⟩

/-- a load and a store of 16 cells, kept whole -/
def loadB (v : Value) : Sem Value := Instr.loadAt 37 v
def storeB (a v : Value) : Sem Unit := Instr.storeAt 37 a v
theorem execOp_loadB (ρ : Operand → Value) (dst : Option Tmp) (x : Operand) (ty : TypeId) (pos : String) (af : Array Edge) (gd : Option (Nat × Bool)) :
    execOp ρ { dst := dst, op := .load 37 x, type := ty, pos := pos, after := af, guard := gd } = (do pure (.value (← loadB (ρ x)))) := rfl
theorem execOp_storeB (ρ : Operand → Value) (dst : Option Tmp) (x y : Operand) (ty : TypeId) (pos : String) (af : Array Edge) (gd : Option (Nat × Bool)) :
    execOp ρ { dst := dst, op := .store 37 x y, type := ty, pos := pos, after := af, guard := gd } = (do storeB (ρ x) (ρ y); pure .skip) := rfl

attribute [local go_sem ↓] execOp_loadB execOp_storeB

/-- how it lies behind k rounds -/
def DblI (s : List UInt8) (w : World) (k : Nat) (W : World) : Prop :=
  ((Arr W w.heap.size 37 (mixd s (dbl s) (16 - k)) ∧ Arr W (w.heap.size + 1) 37 zero16) ∧ (Boxed W (w.heap.size + 1 + 1) 5 (.int .u8 ((carryAt s k).toNat : Int)) ∧ Boxed W (w.heap.size + 1 + 1 + 1) 22 (.slice (some ⟨w.heap.size, 0, none⟩) 16 16))) ∧ Below w.heap.size w W

set_option maxRecDepth 100000 in
set_option maxHeartbeats 2000000 in
theorem doubled_in (F : Fence) (n : Nat) (h3 : F.fn 14) (h5 : F.fn 41) (h7 : F.fn 61) (hro : F.round = none) (hn : 3 ≤ n) (s : List UInt8) (hs : s.length = 16) (w : World) :
    CallsIn F n Try.prog 14 #[.agg (s.map bv).toArray] w fun e W' => e = .returned (.agg ((dbl s).map bv).toArray) ∧ Below w.heap.size w W' := by
  have h1 : 1 ≤ n := by omega
  obtain ⟨w3, b1, b3, e3, eb3, eb1, a1, a3, o3, n13, hb⟩ := two w s zero16 37 37
  refine callsIn_of_wp_marks Try.func14 rfl h3 ?_ hro
  simp only [Try.ntmps14, List.size_toArray, List.length_cons, List.length_nil, Nat.reduceAdd, Nat.reduceSub, Array.replicate_succ, Array.replicate_zero, List.push_toArray, List.append_toArray, List.nil_append, List.cons_append]
  have hs0 : bv (s[0]'(by omega)) = .int .u8 ((gt s 0).toNat : Int) := by
    have := gt_some s 0 (by omega)
    rw [List.getElem?_eq_getElem (by omega)] at this
    rw [Option.some.inj this]; rfl
  have hsr : ((gt s 0).toNat : Int) / (128 : Int) = ((gt s 0 >>> 7).toNat : Int) := shr_bv (gt s 0)
  have hml : ((gt s 0 >>> 7).toNat : Int) * (135 : Int) % (256 : Int) = ((carryAt s 0).toNat : Int) := mul135 (gt s 0)
  obtain ⟨q, hq⟩ : ∃ q, q = gt s 0 >>> 7 := ⟨_, rfl⟩
  rw [← hq] at hsr hml
  clear hq
  gi_wp2_with (gi_at_call 41; refine (backward_in F (n - 1) h5 hro _ _ _ _).mono ?_; rintro e w' ⟨rfl, rfl⟩)
  have bA := (((Arr.new w 37 s _ rfl).alloc (.cells (zero16.map bv).toArray 37)).alloc (.cells #[Value.int .u8 ((carryAt s 0).toNat : Int)] 5)).alloc (.cells #[Value.slice (some ⟨w.heap.size, 0, none⟩) 16 16] 22)
  have bZ := ((Arr.new (w.alloc (.cells (s.map bv).toArray 37)) 37 zero16 _ rfl).alloc (.cells #[Value.int .u8 ((carryAt s 0).toNat : Int)] 5)).alloc (.cells #[Value.slice (some ⟨w.heap.size, 0, none⟩) 16 16] 22)
  have bC := (Boxed.new ((w.alloc (.cells (s.map bv).toArray 37)).alloc (.cells (zero16.map bv).toArray 37)) 5 (Value.int .u8 ((carryAt s 0).toNat : Int))).alloc (.cells #[Value.slice (some ⟨w.heap.size, 0, none⟩) 16 16] 22)
  have bS := Boxed.new (((w.alloc (.cells (s.map bv).toArray 37)).alloc (.cells (zero16.map bv).toArray 37)).alloc (.cells #[Value.int .u8 ((carryAt s 0).toNat : Int)] 5)) 22 (Value.slice (some ⟨w.heap.size, 0, none⟩) 16 16)
  rw [World.size_alloc] at bZ
  rw [World.size_alloc, World.size_alloc] at bC
  rw [World.size_alloc, World.size_alloc, World.size_alloc] at bS
  have hB0 : Below w.heap.size w ((((w.alloc (.cells (s.map bv).toArray 37)).alloc (.cells (zero16.map bv).toArray 37)).alloc (.cells #[Value.int .u8 ((carryAt s 0).toNat : Int)] 5)).alloc (.cells #[Value.slice (some ⟨w.heap.size, 0, none⟩) 16 16] 22)) :=
    ((((Below.refl _ w).alloc (Nat.le_refl _) _).alloc (by simp) _).alloc (by simp; omega) _).alloc (by simp; omega) _
  have hsz : ((((w.alloc (.cells (s.map bv).toArray 37)).alloc (.cells (zero16.map bv).toArray 37)).alloc (.cells #[Value.int .u8 ((carryAt s 0).toNat : Int)] 5)).alloc (.cells #[Value.slice (some ⟨w.heap.size, 0, none⟩) 16 16] 22)).heap.size = w.heap.size + 1 + 1 + 1 + 1 := by simp
  rw [show (#[Value.int .u8 0, .int .u8 0, .int .u8 0, .int .u8 0, .int .u8 0, .int .u8 0, .int .u8 0, .int .u8 0, .int .u8 0, .int .u8 0, .int .u8 0, .int .u8 0, .int .u8 0, .int .u8 0, .int .u8 0, .int .u8 0] : Array Value) = (zero16.map bv).toArray from by kernel_rfl]
  generalize (((w.alloc (.cells (s.map bv).toArray 37)).alloc (.cells (zero16.map bv).toArray 37)).alloc (.cells #[Value.int .u8 ((carryAt s 0).toNat : Int)] 5)).alloc (.cells #[Value.slice (some ⟨w.heap.size, 0, none⟩) 16 16] 22) = w0 at *
  clear hs0 hsr hml e3 eb3 eb1 a1 a3 o3 n13 hb
  have hA0 : Arr w0 w.heap.size 37 (mixd s (dbl s) (16 - 0)) := by rw [Nat.sub_zero, mixd_all _ _ 16 hs (dbl_length s)]; exact bA
  refine wpIn_rangeFunc_sees hro h1 (gf := 61) (lb := #[.pointer (some ⟨w.heap.size + 1 + 1 + 1, 0, none⟩)]) rfl h7 (enters_of Try.func61 (by kernel_rfl) rfl)
    (bwd_sees F (n - 1) h7 hro (by omega) (w.heap.size + 1 + 1 + 1) w.heap.size w0) (fun _ _ => rfl)
    (fun k x W l o o' hl ho hr => cell_kept hr (grownBy_putObj' W l o') (fun r e => by cases e; exact ⟨o, hl, ho⟩))
    (DblI s w)
    ?hI ⟨⟨⟨hA0, bZ⟩, bC, bS⟩, hB0⟩ ?hKp
    (fun k x => { tmps := #[.agg (s.map bv).toArray, .pointer (some ⟨w.heap.size, 0, none⟩), .pointer (some ⟨w.heap.size + 1, 0, none⟩), .pointer (some ⟨w.heap.size + 1 + 1, 0, none⟩), .int .i64 (15 - (k : Int)), bv x, .pointer (some ⟨w.heap.size, 0, none⟩), .int .u8 ((gt s 0).toNat : Int), .int .u8 (q.toNat : Int), .int .u8 ((carryAt s 0).toNat : Int), .slice (some ⟨w.heap.size, 0, none⟩) 16 16, .func (.func 61) #[] #[.pointer (some ⟨w.heap.size + 1 + 1 + 1, 0, none⟩)], .int .i64 (15 - (k : Int)), bv x, undef, undef, undef, undef, undef, undef, undef, undef, undef], defers := [] }) ?assign ?body ?done
  case hI =>
    exact OwnFrom.and (OwnFrom.and (OwnFrom.and (Own.from (arr_own _ _ _) _) (Own.from (arr_own _ _ (fun _ => zero16)) _)) (OwnFrom.and (Own.from (boxed_own _ _ _) _) (Own.from (boxed_own _ _ _) _))) (ownFrom_below (Nat.le_refl _) (by omega))
  case hKp =>
    rintro k V W ⟨⟨⟨hA, _⟩, _, hS⟩, _⟩ _
    refine ⟨hS.cell, fun i hi => ?_⟩
    have hl : (mixd s (dbl s) (16 - k)).length = 16 := mixd_length s (dbl s) 16 (16 - k) hs (dbl_length s) (by omega)
    exact ⟨_, hA.cell i _ (List.getElem?_eq_getElem (by omega))⟩
  case assign =>
    intro l k x W K hK
    unfold bwdEnc
    gi_wp2
    exact hK
  case body =>
    rintro l k x W hk ⟨⟨⟨hA, hZ⟩, hC, hS⟩, hB⟩ hrd
    have hm := mixd_back s k hs hk
    have hx : x = gt s (15 - k) := by
      have h2 := hA.cell _ _ hm
      unfold BwdRd at hrd
      rw [hrd] at h2
      unfold bv at h2
      have h3 : (x.toNat : Int) = ((gt s (15 - k)).toNat : Int) := by simpa using h2
      exact UInt8.toNat_inj.1 (by exact_mod_cast h3)
    subst hx
    have hcell := hA.cell _ _ hm
    have hfree := hA.free (15 - k)
    have hA1 := hA.set (15 - k) ((gt s (15 - k) <<< 1) ^^^ carryAt s k)
    rw [mixd_down s (dbl s) k hs (dbl_length s) hk _ (dbl_carry s k hk)] at hA1
    have hC1 : Boxed (W.setCell ⟨w.heap.size, 15 - k, none⟩ (.int .u8 (((gt s (15 - k) <<< 1) ^^^ carryAt s k).toNat : Int))) (w.heap.size + 1 + 1) 5 (.int .u8 ((carryAt s k).toNat : Int)) := (Below.heap_setCell _ _ _ _ (by show ¬ _ = w.heap.size; omega)).trans hC
    have hc1 := hC.cell
    have hc2 := hC1.cell
    have hf2 := hC1.frozen
    have hxl : ((gt s (15 - k)).toNat : Int) * (2 : Int) % (256 : Int) = ((gt s (15 - k) <<< 1).toNat : Int) := shl_bv _
    have hxr : ((gt s (15 - k)).toNat : Int) / (128 : Int) = ((carryAt s (k + 1)).toNat : Int) := by rw [carry_next s k hk]; exact shr_bv _
    have hxx := Ae.xor_bv (gt s (15 - k) <<< 1) (carryAt s k)
    have hnew : KeepsOthers W ((W.setCell ⟨w.heap.size, 15 - k, none⟩ (.int .u8 (((gt s (15 - k) <<< 1) ^^^ carryAt s k).toNat : Int))).setCell ⟨w.heap.size + 1 + 1, 0, none⟩ (.int .u8 ((carryAt s (k + 1)).toNat : Int))) ∧ DblI s w (k + 1) ((W.setCell ⟨w.heap.size, 15 - k, none⟩ (.int .u8 (((gt s (15 - k) <<< 1) ^^^ carryAt s k).toNat : Int))).setCell ⟨w.heap.size + 1 + 1, 0, none⟩ (.int .u8 ((carryAt s (k + 1)).toNat : Int))) :=
      ⟨(KeepsOthers.setCell _ _ _).trans (KeepsOthers.setCell _ _ _), ⟨⟨hA1.other _ (by omega), (hZ.other _ (by omega)).other _ (by omega)⟩, hC1.set _, (show Boxed _ _ _ _ from (Below.heap_setCell _ _ _ _ (by show ¬ _ = w.heap.size + 1 + 1; omega)).trans ((Below.heap_setCell _ _ _ _ (by show ¬ _ = w.heap.size; omega)).trans hS))⟩, (hB.setCell (p := ⟨w.heap.size, 15 - k, none⟩) (Nat.le_refl _) _).setCell (p := ⟨w.heap.size + 1 + 1, 0, none⟩) (by show w.heap.size ≤ w.heap.size + 1 + 1; omega) _⟩
    have HN := hide hnew
    have hge : (0 : Int) ≤ 15 - (k : Int) := by omega
    have hlt2 : (15 - (k : Int)) < 16 := by omega
    clear hnew hA1 hC1 hA hZ hC hS hB hrd hm bA bZ bC bS hB0 hA0 hsz
    generalize gt s (15 - k) = x at *
    generalize carryAt s (k + 1) = c1 at *
    generalize (x <<< 1) = y at *
    generalize y ^^^ carryAt s k = z at *
    generalize carryAt s k = c at *
    unfold bv
    gi_wp2
    exact unhide HN
  case done =>
    rintro D W hD ⟨⟨⟨hA, hZ⟩, hC, hS⟩, hB⟩ hK
    rw [show 16 - 16 = 0 from rfl, mixd_zero] at hA
    have hl := dbl_length s
    obtain ⟨L, hL⟩ : ∃ L, L = dbl s := ⟨_, rfl⟩
    rw [← hL] at hA hl
    have HL := hide hL
    clear hL
    have hld : (loadB (.pointer (some ⟨w.heap.size, 0, none⟩))).run Try.prog W = .ok (.agg (L.map bv).toArray) W := run_loadAt_mid (P := Try.prog) W w.heap.size 0 37 (L.map bv) _ hA.range Try.underMB rfl (by rw [Try.sizeMB]; simp [hl])
    have hst : (storeB (.pointer (some ⟨w.heap.size + 1, 0, none⟩)) (.agg (L.map bv).toArray)).run Try.prog W = .ok () (W.setCells (w.heap.size + 1) 0 (L.map bv).toArray.toList) := run_storeAt_mid (P := Try.prog) W (w.heap.size + 1) 0 37 (L.map bv).toArray (there16 hZ rfl hl) (size16s hl) (ag_one _)
    have hR := hZ.stored L (by rw [hl]; rfl)
    have hoS : Only (fun j => j = w.heap.size + 1) W (W.setCells (w.heap.size + 1) 0 (L.map bv)) := Only.setCells (S := fun j => j = w.heap.size + 1) (fun _ => rfl) _ _ _ (Only.refl _ W)
    have hK2 : (W.setCells (w.heap.size + 1) 0 (L.map bv)).heap[D]? = some (.deferred (some [])) := hoS.heap hK (by omega)
    have hB2 : Below w.heap.size w (W.setCells (w.heap.size + 1) 0 (L.map bv)) := hB.trans (hoS.below hB.size (fun k e => by omega))
    have HB := hide hB2
    have HR := hide hR
    have HK := hide hK2
    clear bA bZ bC bS hB0 hA0 hC hS hA hZ hB2 hoS hR hK2
    gi_wp2
    refine ⟨by simp, .inl ⟨_, _, rfl, run_takeDeferred (unhide HK), ?_⟩⟩
    have hR2 : Arr ((W.setCells (w.heap.size + 1) 0 (L.map bv)).putObj D (.deferred none)) (w.heap.size + 1) 37 L := (arr_own (β := Unit) (w.heap.size + 1) 37 (fun _ => L)).putObj (s := ()) _ (unhide HR) (unhide HK) rfl
    exact ⟨_, results_cell_row rfl _ _ (w.heap.size + 1) 37 _ _ _ rfl hR2.out Try.underMB rfl (by rw [Try.sizeMB]; simp [hl]), by rw [← unhide HL], (unhide HB).trans (belowK_b (w := w) (Nat.le_refl _) _ D _ _ (by omega) (unhide HK) rfl rfl)⟩

theorem doubled_any (s : List UInt8) (hs : s.length = 16) (w : World) :
    Calls Try.prog 14 #[.agg (s.map bv).toArray] w fun e w' => e = .returned (.agg ((dbl s).map bv).toArray) ∧ Only (fun _ => False) w w' :=
  (callsIn_wide (n := 3)).1 ((doubled_in Fence.wide 3 trivial trivial trivial rfl (Nat.le_refl _) s hs w).mono fun e W' ⟨he, hb⟩ => ⟨he, Only.ofBelow hb⟩)

end Md
end Go.Proofs.Ytdmcnblnoiahcaa

namespace Go.Proofs.Ytdmcnblnoiahcaa
open Go.RowKit
set_option linter.unusedSimpArgs false
set_option linter.unusedVariables false
namespace Md
open Ae (zero16 Arr ag_one range_only exec_load_mid step_store_mid two three added added_length)

set_option maxRecDepth 100000 in
set_option maxHeartbeats 2000000 in
theorem ending_full (r f : List UInt8) (hr : r.length = 16) (hf : f.length = 16) (v : Value) (w : World) (hv : Has w v r) :
    Calls Try.prog 16 #[v, .agg (f.map bv).toArray] w fun e w' => e = .returned (.agg ((added r f).map bv).toArray) ∧ Only (fun _ => False) w w' := by
  have hal := added_length hr hf
  obtain ⟨ao, cap, rfl, hlc, _⟩ := hv.shape
  obtain ⟨ib, io, rfl, _, hc⟩ := hv.at (by omega)
  have hib : ib < w.heap.size := hv.blk_lt (by intro e; rw [e] at hr; simp at hr) ib rfl
  have hrg : w.rangeAt ib io (r.map bv) := by
    intro j u hu
    have hj : j < r.length := by have := (List.getElem?_eq_some_iff.1 hu).1; simpa using this
    rw [hc j hj]
    rw [List.getElem?_map, List.getElem?_eq_getElem hj] at hu
    simpa using hu
  obtain ⟨w3, b1, b3, e3, eb3, eb1, a1, a3, o3, n13, hb⟩ := two w f zero16 37 37
  have HRG := hide (range_only hrg o3 (fun e => e))
  rw [hr]
  clear hrg hc hv hlc
  go_enter Try.func16, Try.ntmps16
  go_upto_region 1 with fail
  rw [Ae.zeros_eq, ← e3, ← eb3, ← eb1]
  clear e3 eb3 eb1
  have A1 := hide a1
  have A3 := hide a3
  have O3 := hide o3
  have HB := hide hb
  clear a1 a3 o3 hb
  have haa := arrayAt_go ib io cap
  go_wp2_with fail
  refine wp_region_last_drew (S := (fun w' => Only (fun _ => False) w3 w')) 5 (by kernel_rfl) ((Only.refl _ _).drew) (fun hHeld => ?_)
  refine wpAnyL_take (i := 0) (v := ?v10) rfl (by kernel_rfl) (by kernel_rfl) (by kernel_rfl) (by kernel_rfl) (fun _ _ _ h => h) (Or.inl ⟨by rfl, ?hy10⟩) (by assumption) ?rest10
  case hy10 =>
    intro w hSw
    go_simp
    try with_reducible rfl
  try simp only [Act.put, List.setIfInBounds_toArray, List.set_cons_zero, List.set_cons_succ, List.getElem_toArray, List.getElem_cons_succ, List.getElem_cons_zero]
  refine wpAnyL_take (i := 1) (v := ?v11) rfl (by kernel_rfl) (by kernel_rfl) (by kernel_rfl) (by kernel_rfl) (fun _ _ _ h => h) (Or.inl ⟨by rfl, ?hy11⟩) (by assumption) ?rest11
  case hy11 =>
    intro w hSw
    go_simp
    try with_reducible rfl
  try simp only [Act.put, List.setIfInBounds_toArray, List.set_cons_zero, List.set_cons_succ, List.getElem_toArray, List.getElem_cons_succ, List.getElem_cons_zero]
  refine wpAnyL_take (i := 2) (v := ?v12) rfl (by kernel_rfl) (by kernel_rfl) (by kernel_rfl) (by kernel_rfl) (fun _ _ _ h => h) (Or.inl ⟨by rfl, ?hy12⟩) (by assumption) ?rest12
  case hy12 =>
    intro w hSw
    (refine exec_load_mid 37 (.tmp 10) ?_ ib io ?_ (r.map bv) _ (range_only (unhide HRG) hSw (fun e => e)) Try.underMB rfl (by rw [Try.sizeMB]; simp [hr]) <;> rfl)
  try simp only [Act.put, List.setIfInBounds_toArray, List.set_cons_zero, List.set_cons_succ, List.getElem_toArray, List.getElem_cons_succ, List.getElem_cons_zero]
  refine wpAnyL_take (i := 3) (v := ?v13) rfl (by kernel_rfl) (by kernel_rfl) (by kernel_rfl) (by kernel_rfl) (fun _ _ _ h => h) (Or.inl ⟨by rfl, ?hy13⟩) (by assumption) ?rest13
  case hy13 =>
    intro w hSw
    (refine exec_load_mid 37 (.tmp 3) ?_ b1 0 ?_ (f.map bv) _ (range_only (unhide A1).range hSw (fun e => e)) Try.underMB rfl (by rw [Try.sizeMB]; simp [hf]) <;> rfl)
  try simp only [Act.put, List.setIfInBounds_toArray, List.set_cons_zero, List.set_cons_succ, List.getElem_toArray, List.getElem_cons_succ, List.getElem_cons_zero]
  refine wpAnyL_ready (rs := [4]) (by kernel_rfl) (by simp) ?_
  refine AllReadyL.cons rfl (fun K hK => ?_) AllReadyL.nil
  go_simp
  go_wp2_with fail; refine (xored_any r f _ hr hf).mono ?_; rintro e x1 ⟨rfl, y1⟩; have Q1 : Hid (Only (fun _ => False) w3 x1) := ((Only.refl (fun _ => False) w3).drew).trans y1 (fun _ _ e => e); clear y1
  refine hK.out _ _ ((unhide Q1)) (fun hHeld => ?_)
  clear hK K
  try simp only [Act.put, List.setIfInBounds_toArray, List.set_cons_zero, List.set_cons_succ, List.getElem_toArray, List.getElem_cons_succ, List.getElem_cons_zero]
  have A3x := hide ((unhide A3).only (unhide Q1) (fun e => e))
  have HT3 := hide (there16 (unhide A3x) rfl hal)
  have HZ3 := hide (size16s hal)
  refine wpAnyL_ready (rs := [5]) (by kernel_rfl) (by simp) ?_
  refine AllReadyL.last rfl (fun K hK => ?_)
  refine step_store_mid rfl 37 (.tmp 4) (.tmp 13) rfl b3 0 ((added r f).map bv).toArray rfl rfl (unhide HT3) (unhide HZ3) (ag_one _) ?_
  refine hK.out _ _ (trivial) (fun hHeld => ?_)
  clear hK K
  try simp only [Act.put, List.setIfInBounds_toArray, List.set_cons_zero, List.set_cons_succ, List.getElem_toArray, List.getElem_cons_succ, List.getElem_cons_zero]
  refine wpAnyL_done (by kernel_rfl) ?_ _
  obtain ⟨wz, ez, az, oz⟩ := restored x1 b3 zero16 (added r f) (unhide A3x) (by rw [hal]; rfl)
  rw [← ez]
  have AZ := hide az
  have OZ : Hid (Only (fun j => j = b3) w3 wz) := ((Only.refl (fun j => j = b3) w3).trans (unhide Q1) (fun _ _ e => e.elim)).trans oz (fun _ _ e => e)
  clear ez az oz haa
  go_wp2
  refine bodyPost_ret (results_cell_row rfl _ _ b3 37 _ _ _ rfl (unhide AZ).out Try.underMB rfl (by rw [Try.sizeMB]; simp [hal])) rfl ?_
  exact ⟨rfl, (unhide O3).trans (unhide OZ) (fun j hj e => ((unhide HB j hj).2 e).elim)⟩

/-- what stands there, a bit, and zeros -/
def endP (r : List UInt8) : List UInt8 := (ivS r).set r.length 128
theorem endP_length (r : List UInt8) : (endP r).length = 16 := by unfold endP; rw [List.length_set]; exact ivS_length r
def endB (r f : List UInt8) : List UInt8 := if r.length = 16 then added r f else added (endP r) (dbl f)
theorem endB_length (r f : List UInt8) (hf : f.length = 16) : (endB r f).length = 16 := by
  unfold endB
  split
  · exact added_length (by assumption) hf
  · exact added_length (endP_length r) (dbl_length f)

set_option maxRecDepth 100000 in
set_option maxHeartbeats 2000000 in
theorem ending_short (r f : List UInt8) (hr : r.length < 16) (hf : f.length = 16) (v : Value) (w : World) (hv : Has w v r) :
    Calls Try.prog 16 #[v, .agg (f.map bv).toArray] w fun e w' => e = .returned (.agg ((added (endP r) (dbl f)).map bv).toArray) ∧ Only (fun _ => False) w w' := by
  have hal := added_length (endP_length r) (dbl_length f)
  have hel := endP_length r
  have hdl := dbl_length f
  obtain ⟨ao, cap, rfl, hlc, _⟩ := hv.shape
  obtain ⟨w3, b1, b2, b3, e3, eb3, eb2, eb1, a1, a2, a3, o3, n12, n13, n23, hb⟩ := three w f zero16 zero16 37 37 37
  obtain ⟨nv, w4, hcp, a4, o4⟩ := copy16 a3 rfl (hv.only o3 (fun _ _ _ e => e))
  rw [ivS_eq] at a4
  have hnn : (ivS r)[r.length]? = some (Ae.gt (ivS r) r.length) := Ae.gt_some _ _ (by rw [ivS_length]; exact hr)
  have hcell := a4.cell _ _ hnn
  have hfree := a4.free r.length
  have a5 : Arr (w4.setCell ⟨b3, r.length, none⟩ (.int .u8 128)) b3 37 (endP r) := a4.set r.length 128
  have o5 : Only (fun j => j = b3) w3 (w4.setCell ⟨b3, r.length, none⟩ (.int .u8 128)) := o4.here r.length (.int .u8 128)
  obtain ⟨wx, hwx⟩ : ∃ wx, wx = w4.setCell ⟨b3, r.length, none⟩ (.int .u8 128) := ⟨_, rfl⟩
  rw [← hwx] at a5 o5
  have HX := hide hwx
  have A5 := hide a5
  have A1 := hide (a1.only o5 (fun e => n13 e))
  have A2 := hide (a2.only o5 (fun e => n23 e))
  have O3 := hide o3
  have O5 := hide o5
  have HB := hide hb
  have hne : ¬ ((r.length : Int) = 16) := by omega
  have hlt : (r.length : Int) < 16 := by omega
  have hge : (0 : Int) ≤ (r.length : Int) := by omega
  generalize Ae.gt (ivS r) r.length = g0 at hcell
  clear a1 a2 a3 a4 a5 o3 o4 o5 hb hv hwx hnn hlc
  obtain ⟨E, hE⟩ : ∃ E, E = endP r := ⟨_, rfl⟩
  obtain ⟨D, hD⟩ : ∃ D, D = dbl f := ⟨_, rfl⟩
  rw [← hE, ← hD]
  rw [← hE, ← hD] at hal
  rw [← hE] at hel A5
  rw [← hD] at hdl
  have HD := hide hD
  clear hE hD
  generalize r.length = n at *
  go_enter Try.func16, Try.ntmps16
  go_upto_region 4 with fail
  rw [Ae.zeros_eq, ← e3, ← eb3, ← eb2, ← eb1]
  clear e3 eb3 eb2 eb1
  go_wp2_with (first
    | (at_builtin; refine Lib.wpList_copy_run _ rfl (.tmp 14) (.tmp 15) 22 22 rfl _ _ rfl rfl hcp ?_))
  rw [← unhide HX]
  clear hcell hfree hcp
  refine wp_region_last_drew (S := (fun w' => Only (fun _ => False) wx w')) 4 (by kernel_rfl) ((Only.refl _ _).drew) (fun hHeld => ?_)
  refine wpAnyL_take (i := 0) (v := ?v14) rfl (by kernel_rfl) (by kernel_rfl) (by kernel_rfl) (by kernel_rfl) (fun _ _ _ h => h) (Or.inl ⟨by rfl, ?hy14⟩) (by assumption) ?rest14
  case hy14 =>
    intro w hSw
    (refine exec_load_mid 37 (.tmp 5) ?_ b3 0 ?_ (E.map bv) _ (range_only (unhide A5).range hSw (fun e => e)) Try.underMB rfl (by rw [Try.sizeMB]; simp [hel]) <;> rfl)
  try simp only [Act.put, List.setIfInBounds_toArray, List.set_cons_zero, List.set_cons_succ, List.getElem_toArray, List.getElem_cons_succ, List.getElem_cons_zero]
  refine wpAnyL_take (i := 1) (v := ?v15) rfl (by kernel_rfl) (by kernel_rfl) (by kernel_rfl) (by kernel_rfl) (fun _ _ _ h => h) (Or.inl ⟨by rfl, ?hy15⟩) (by assumption) ?rest15
  case hy15 =>
    intro w hSw
    (refine exec_load_mid 37 (.tmp 3) ?_ b1 0 ?_ (f.map bv) _ (range_only (unhide A1).range hSw (fun e => e)) Try.underMB rfl (by rw [Try.sizeMB]; simp [hf]) <;> rfl)
  try simp only [Act.put, List.setIfInBounds_toArray, List.set_cons_zero, List.set_cons_succ, List.getElem_toArray, List.getElem_cons_succ, List.getElem_cons_zero]
  refine wpAnyL_ready (rs := [2]) (by kernel_rfl) (by simp) ?_
  refine AllReadyL.cons rfl (fun K hK => ?_) AllReadyL.nil
  go_simp
  go_wp2_with fail; refine (doubled_any f hf _).mono ?_; rintro e x0 ⟨rfl, y0⟩; have Q0 : Hid (Only (fun _ => False) wx x0) := ((Only.refl (fun _ => False) wx).drew).trans y0 (fun _ _ e => e); clear y0; rw [← unhide HD]
  refine hK.out _ _ ((unhide Q0)) (fun hHeld => ?_)
  clear hK K
  try simp only [Act.put, List.setIfInBounds_toArray, List.set_cons_zero, List.set_cons_succ, List.getElem_toArray, List.getElem_cons_succ, List.getElem_cons_zero]
  refine wpAnyL_ready (rs := [3]) (by kernel_rfl) (by simp) ?_
  refine AllReadyL.cons rfl (fun K hK => ?_) AllReadyL.nil
  go_simp
  go_wp2_with fail; refine (xored_any E D _ hel hdl).mono ?_; rintro e x1 ⟨rfl, y1⟩; have Q1 : Hid (Only (fun _ => False) wx x1) := (unhide Q0).trans y1 (fun _ _ e => e); clear y1
  refine hK.out _ _ ((unhide Q1)) (fun hHeld => ?_)
  clear hK K
  try simp only [Act.put, List.setIfInBounds_toArray, List.set_cons_zero, List.set_cons_succ, List.getElem_toArray, List.getElem_cons_succ, List.getElem_cons_zero]
  have A2x := hide ((unhide A2).only (unhide Q1) (fun e => e))
  have HT3 := hide (there16 (unhide A2x) rfl hal)
  have HZ3 := hide (size16s hal)
  refine wpAnyL_ready (rs := [4]) (by kernel_rfl) (by simp) ?_
  refine AllReadyL.last rfl (fun K hK => ?_)
  refine step_store_mid rfl 37 (.tmp 4) (.tmp 23) rfl b2 0 ((added E D).map bv).toArray rfl rfl (unhide HT3) (unhide HZ3) (ag_one _) ?_
  refine hK.out _ _ (trivial) (fun hHeld => ?_)
  clear hK K
  try simp only [Act.put, List.setIfInBounds_toArray, List.set_cons_zero, List.set_cons_succ, List.getElem_toArray, List.getElem_cons_succ, List.getElem_cons_zero]
  refine wpAnyL_done (by kernel_rfl) ?_ _
  obtain ⟨wz, ez, az, oz⟩ := restored x1 b2 zero16 (added E D) (unhide A2x) (by rw [hal]; rfl)
  rw [← ez]
  have AZ := hide az
  have OZ : Hid (Only (fun j => j = b2) wx wz) := ((Only.refl (fun j => j = b2) wx).trans (unhide Q1) (fun _ _ e => e.elim)).trans oz (fun _ _ e => e)
  clear ez az oz
  go_wp2
  refine bodyPost_ret (results_cell_row rfl _ _ b2 37 _ _ _ rfl (unhide AZ).out Try.underMB rfl (by rw [Try.sizeMB]; simp [hal])) rfl ?_
  exact ⟨rfl, ((unhide O3).trans (unhide O5) (fun j hj e => ((unhide HB j hj).2.2 e).elim)).trans (unhide OZ) (fun j hj e => ((unhide HB j hj).2.1 e).elim)⟩

theorem ending_any (r f : List UInt8) (hr : r.length ≤ 16) (hf : f.length = 16) (v : Value) (w : World) (hv : Has w v r) :
    Calls Try.prog 16 #[v, .agg (f.map bv).toArray] w fun e w' => e = .returned (.agg ((endB r f).map bv).toArray) ∧ Only (fun _ => False) w w' := by
  unfold endB
  split
  · next h => exact ending_full r f h hf v w hv
  · exact ending_short r f (by omega) hf v w hv

end Md
end Go.Proofs.Ytdmcnblnoiahcaa

namespace Go.Proofs.Ytdmcnblnoiahcaa
open Go.RowKit
set_option linter.unusedSimpArgs false
set_option linter.unusedVariables false
namespace Md
open Ae (zero16 Arr ag_one range_only exec_load_mid step_store_mid added added_length upto upto_length blkOf bflat)

/-- CMAC's first key; how many blocks stand ahead of the last; all blocks; the tag -/
def firstK (key : List UInt8) : List UInt8 := dbl (sealF key zero16)
def mN (t : List UInt8) : Nat := (t.length - 1) / 16
def allB (key t : List UInt8) : List UInt8 := t.take (16 * mN t) ++ endB (t.drop (16 * mN t)) (firstK key)
def macT (key t : List UInt8) : List UInt8 := ch (sealF key) zero16 (allB key t) (mN t + 1)
theorem firstK_length (key : List UInt8) : (firstK key).length = 16 := dbl_length _
theorem mN_le (t : List UInt8) : 16 * mN t ≤ t.length := by unfold mN; omega
theorem rest_le (t : List UInt8) : (t.drop (16 * mN t)).length ≤ 16 := by rw [List.length_drop]; unfold mN; omega
theorem allB_length (key t : List UInt8) : (allB key t).length = 16 * (mN t + 1) := by
  unfold allB
  rw [List.length_append, List.length_take, endB_length _ _ (firstK_length key), Nat.min_eq_left (mN_le t)]
  omega

theorem w64 (x : Int) (h1 : -1 ≤ x) (h2 : x < 9223372036854775808) : wrap64 x = x := by
  unfold wrap64
  rw [Int.emod_eq_of_lt (by omega) (by omega)]
  omega

set_option maxRecDepth 100000 in
set_option maxHeartbeats 2000000 in
theorem mac_not (key : List UInt8) (h : ¬ keyB key) (kv tv : Value) (w : World) (hk : Has w kv key) :
    Calls Try.prog 5 #[kv, tv] w fun e w' => e = .returned (.tuple #[.slice none 0 0, .int .i64 1]) ∧ w' = w := by
  have HN := hide (new_not key h kv w hk)
  clear hk h
  go_enter Try.func5, Try.ntmps5
  go_wp2_with fail
  refine (unhide HN).mono ?_
  rintro e w1 ⟨rfl, hw1⟩
  rw [hw1]
  clear hw1 w1
  go_wp2
  go_ret2
  exact ⟨rfl, rfl⟩

set_option maxRecDepth 100000 in
set_option maxHeartbeats 4000000 in
theorem mac_fine (key t : List UInt8) (h : keyB key) (hl : t.length ≤ 140737488351232) (kv tv : Value) (w : World) (hk : Has w kv key) (ht : Has w tv t) :
    Calls Try.prog 5 #[kv, tv] w fun e w' => ∃ v, e = .returned (.tuple #[v, .int .i64 0]) ∧ Owns w.heap.size w' v (macT key t) ∧ Only (fun _ => False) w w' := by
  have HN := hide (new_fine key h kv w hk)
  obtain ⟨ta, tc, rfl, htc, _⟩ := ht.shape
  have HT := hide ht
  have HLN := hide hl
  have hsl := sealF_length key h zero16 rfl
  have HSL := hide hsl
  clear hk ht hl hsl htc
  go_enter Try.func5, Try.ntmps5
  go_wp2_with fail
  refine (unhide HN).mono ?_
  rintro e w1 ⟨cb, rfl, hc, o1⟩
  have HAC := hide (acts_seal key h hc)
  have O1 := hide o1
  clear hc o1
  go_wp2_with fail
  rw [Ae.zeros_eq]
  refine (unhide HAC zero16 _ rfl (Only.refl _ _)).mono ?_
  rintro e w2 ⟨rfl, o2⟩
  have O2 := hide o2
  clear o2
  go_wp2_with fail
  refine (doubled_any (sealF key zero16) (unhide HSL) _).mono ?_
  rintro e w3 ⟨rfl, o3⟩
  obtain ⟨F1, hF1⟩ : ∃ F1, F1 = firstK key := ⟨_, rfl⟩
  have hfl : F1.length = 16 := by rw [hF1]; exact firstK_length key
  have HF1 := hide hF1
  rw [show dbl (sealF key zero16) = F1 from hF1.symm]
  clear hF1
  obtain ⟨wy, b8, ey, eb8, a8, o8⟩ := made16 w3 F1 hfl
  have HT2 := hide (there16 (Arr.new w3 37 zero16 _ rfl) rfl hfl)
  have HZ2 := hide (size16s hfl)
  have HFL := hide hfl
  have O3 := hide o3
  clear hfl o3
  go_upto_region 5 with (refine wpList_store_mid rfl 37 (.tmp 8) (.tmp 23) rfl w3.heap.size 0 (F1.map bv).toArray rfl rfl (unhide HT2) (unhide HZ2) (ag_one _) ?_)
  rw [Ae.zeros_eq, ← ey, ← eb8]
  have A8 := hide a8
  have O2Y : Hid (Only (fun _ => False) w1 wy) := ((unhide O2).trans (unhide O3) (fun _ _ e => e)).trans o8 (fun _ _ e => e)
  have OY : Hid (Only (fun _ => False) w wy) := (unhide O1).trans (unhide O2Y) (fun _ _ e => e)
  have HTY := hide ((unhide HT).only (unhide OY) (fun _ _ _ e => e))
  have HAY := hide ((unhide HAC).new (unhide O2Y))
  clear ey eb8 a8 o8 HT2 HZ2 O1 O2 O3 HT HN HAC
  generalize hn : t.length = n at *
  go_upto_region 6 with fail
  obtain ⟨m, hm⟩ : ∃ m, m = mN t := ⟨_, rfl⟩
  obtain ⟨C, hC⟩ : ∃ C, C = 16 * m := ⟨_, rfl⟩
  have hl2 := unhide HLN
  have hm2 : m = (n - 1) / 16 := by rw [hm, ← hn]; rfl
  have hcut : wrap64 (wrap64 ((max (wrap64 ((n : Int) - 1)) 0).tdiv 16) * 16) = (C : Int) := by
    have e1 : wrap64 ((n : Int) - 1) = (n : Int) - 1 := w64 _ (by omega) (by omega)
    have e2 : max ((n : Int) - 1) 0 = ((n - 1 : Nat) : Int) := by omega
    have e3 : ((n - 1 : Nat) : Int) / 16 = (m : Int) := by omega
    rw [e1, e2, Int.tdiv_eq_ediv_of_nonneg (by omega), e3, w64 (m : Int) (by omega) (by omega), w64 _ (by omega) (by omega)]
    omega
  rw [hcut]
  have hcn : C ≤ n := by omega
  have hct : C ≤ tc := by
    have := (unhide HTY).shape
    obtain ⟨_, c2, e, hle, _⟩ := this
    simp only [Value.slice.injEq] at e
    omega
  have H1 := hide ((unhide HTY).front (n := C) (by omega))
  have HTL : Hid ((t.take C).length = 16 * m) := by show _ = _; rw [List.length_take]; omega
  have HRL : Hid ((t.drop C).length ≤ 16) := by show _ ≤ _; rw [List.length_drop]; omega
  have HM : Hid (m ≤ 8796093022208) := by show _ ≤ _; omega
  have HM1 : Hid (m + 1 ≤ 8796093022208) := by show _ ≤ _; omega
  have HAB : Hid (allB key t = t.take C ++ endB (t.drop C) F1) := by show _ = _; unfold allB; rw [← hm, ← hC, unhide HF1]
  have HMT : Hid (macT key t = ch (sealF key) zero16 (allB key t) (m + 1)) := by show _ = _; unfold macT; rw [← hm]
  have hcnI : (C : Int) ≤ (n : Int) := by omega
  have hctI : (C : Int) ≤ (tc : Int) := by omega
  have hc0 : (0 : Int) ≤ (C : Int) := by omega
  have hback := (unhide HTY).back (n := C) (by omega)
  rw [hn] at hback
  by_cases hcc : tc = C
  · have hcc3 : C = tc := hcc.symm
    subst hcc3
    have hbn := (unhide HTY).backNone (by omega)
    rw [hn] at hbn
    have H2 := hide hbn
    clear hback hbn hcut hm hm2 hl2 hC
    go_wp2_with fail
    refine wp_region_held_drew (S := (fun w' => Only (fun _ => False) wy w')) (by kernel_rfl) ((Only.refl _ _).drew) (fun hHeld => ?_)
    refine wpAnyH_take (i := 0) (v := ?v16) rfl (by kernel_rfl) (by kernel_rfl) (by kernel_rfl) (fun _ _ _ h => h) (Or.inl ⟨by rfl, ?hy16⟩) (by assumption) ?rest16
    case hy16 =>
      intro w hSw
      go_simp
      try with_reducible rfl
    try simp only [Act.put, List.setIfInBounds_toArray, List.set_cons_zero, List.set_cons_succ, List.getElem_toArray, List.getElem_cons_succ, List.getElem_cons_zero]
    refine wpAnyH_take (i := 1) (v := ?v17) rfl (by kernel_rfl) (by kernel_rfl) (by kernel_rfl) (fun _ _ _ h => h) (Or.inl ⟨by rfl, ?hy17⟩) (by assumption) ?rest17
    case hy17 =>
      intro w hSw
      go_simp
      try with_reducible rfl
    try simp only [Act.put, List.setIfInBounds_toArray, List.set_cons_zero, List.set_cons_succ, List.getElem_toArray, List.getElem_cons_succ, List.getElem_cons_zero]
    refine wpAnyH_take (i := 2) (v := ?v18) rfl (by kernel_rfl) (by kernel_rfl) (by kernel_rfl) (fun _ _ _ h => h) (Or.inl ⟨by rfl, ?hy18⟩) (by assumption) ?rest18
    case hy18 =>
      intro w hSw
      go_simp
      try with_reducible rfl
    try simp only [Act.put, List.setIfInBounds_toArray, List.set_cons_zero, List.set_cons_succ, List.getElem_toArray, List.getElem_cons_succ, List.getElem_cons_zero]
    refine wpAnyH_take (i := 4) (v := ?v19) rfl (by kernel_rfl) (by kernel_rfl) (by kernel_rfl) (fun _ _ _ h => h) (Or.inl ⟨by rfl, ?hy19⟩) (by assumption) ?rest19
    case hy19 =>
      intro w hSw
      go_simp
      try with_reducible rfl
    try simp only [Act.put, List.setIfInBounds_toArray, List.set_cons_zero, List.set_cons_succ, List.getElem_toArray, List.getElem_cons_succ, List.getElem_cons_zero]
    refine wpAnyH_take (i := 5) (v := ?v20) rfl (by kernel_rfl) (by kernel_rfl) (by kernel_rfl) (fun _ _ _ h => h) (Or.inl ⟨by rfl, ?hy20⟩) (by assumption) ?rest20
    case hy20 =>
      intro w hSw
      go_simp
      try with_reducible rfl
    try simp only [Act.put, List.setIfInBounds_toArray, List.set_cons_zero, List.set_cons_succ, List.getElem_toArray, List.getElem_cons_succ, List.getElem_cons_zero]
    refine wpAnyH_take (i := 7) (v := ?v21) rfl (by kernel_rfl) (by kernel_rfl) (by kernel_rfl) (fun _ _ _ h => h) (Or.inl ⟨by rfl, ?hy21⟩) (by assumption) ?rest21
    case hy21 =>
      intro w hSw
      (refine exec_load_mid 37 (.tmp 8) ?_ b8 0 ?_ (F1.map bv) _ (range_only (unhide A8).range hSw (fun e => e)) Try.underMB rfl (by rw [Try.sizeMB]; simp [unhide HFL]) <;> rfl)
    try simp only [Act.put, List.setIfInBounds_toArray, List.set_cons_zero, List.set_cons_succ, List.getElem_toArray, List.getElem_cons_succ, List.getElem_cons_zero]
    refine wpAnyH_take (i := 6) (v := ?v22) rfl (by kernel_rfl) (by kernel_rfl) (by kernel_rfl) (fun _ _ _ h => h) (Or.inl ⟨by rfl, ?hy22⟩) (by assumption) ?rest22
    case hy22 =>
      intro w hSw
      go_simp
      try with_reducible rfl
    try simp only [Act.put, List.setIfInBounds_toArray, List.set_cons_zero, List.set_cons_succ, List.getElem_toArray, List.getElem_cons_succ, List.getElem_cons_zero]
    refine wpAnyH_ready (rs := [3]) (by kernel_rfl) (by simp) ?_
    refine AllReadyH.cons rfl (fun K hK => ?_) AllReadyH.nil
    go_simp
    go_wp2_with fail; refine (blocks_has m (t.take C) (unhide HM) (unhide HTL) _ _ ((unhide H1).only ((Only.refl (fun _ => False) wy).drew) (fun _ _ _ e => e))).mono ?_; rintro e x1 ⟨v33, rfl, h33, y1⟩; have H33 := hide h33; have Q1 : Hid (Only (fun _ => False) wy x1) := ((Only.refl (fun _ => False) wy).drew).trans y1 (fun _ _ e => e); have HS1 := hide y1.size; clear y1 h33
    refine hK.out _ _ ((unhide Q1)) (fun hHeld => ?_)
    clear hK K
    try simp only [Act.put, List.setIfInBounds_toArray, List.set_cons_zero, List.set_cons_succ, List.getElem_toArray, List.getElem_cons_succ, List.getElem_cons_zero]
    refine wpAnyH_ready (rs := [8]) (by kernel_rfl) (by simp) ?_
    refine AllReadyH.cons rfl (fun K hK => ?_) AllReadyH.nil
    go_simp
    go_wp2_with fail; refine (ending_any (t.drop C) F1 (unhide HRL) (unhide HFL) _ x1 ((unhide H2).only (unhide Q1) (fun _ _ _ e => e))).mono ?_; rintro e x2 ⟨rfl, y2⟩; have Q2 : Hid (Only (fun _ => False) wy x2) := (unhide Q1).trans y2 (fun _ _ e => e); have Y2 := hide y2; clear y2
    refine hK.out _ _ ((unhide Q2)) (fun hHeld => ?_)
    clear hK K
    try simp only [Act.put, List.setIfInBounds_toArray, List.set_cons_zero, List.set_cons_succ, List.getElem_toArray, List.getElem_cons_succ, List.getElem_cons_zero]
    obtain ⟨L, hL⟩ : ∃ L, L = endB (t.drop C) F1 := ⟨_, rfl⟩
    have HLL : Hid (L.length = 16) := by show _ = _; rw [hL]; exact endB_length _ _ (unhide HFL)
    rw [← hL] at HAB ⊢
    clear hL
    have own0 : x2.ownsRow wy.heap.size 37 16 v33 m ((t.take C).map bv) := (unhide Y2).owns (by have h1 := unhide H33; rw [bflat_all _ m (unhide HTL)] at h1; exact h1) (fun _ _ e => e)
    have hlt33 := own0.lt
    obtain ⟨g2, cap2, x3, hrun, own2, op2⟩ := push16 x2 wy.heap.size v33 m (t.take C) L (unhide HLL) own0 (by have := unhide HM1; omega) (unhide Q2).size
    have HRUN := hide hrun
    rw [← unhide HAB] at own2
    have OWN2 := hide own2
    have OX3 : Hid (Only (fun _ => False) wy x3) := (unhide Q2).trans op2 (fun j hj e => absurd hj (Nat.not_lt.2 (hlt33 j e).1))
    clear hrun own2 op2 own0 hlt33
    refine wpAnyH_ready (rs := [9]) (by kernel_rfl) (by simp) ?_
    refine AllReadyH.cons rfl (fun K hK => ?_) AllReadyH.nil
    refine step_rowBlk rfl (.tmp 38) rfl L (unhide HLL) rfl ?_
    refine hK.out _ _ (((unhide Q2).alloc _)) (fun hHeld => ?_)
    clear hK K
    try simp only [Act.put, List.setIfInBounds_toArray, List.set_cons_zero, List.set_cons_succ, List.getElem_toArray, List.getElem_cons_succ, List.getElem_cons_zero]
    refine wpAnyH_ready (rs := [10]) (by kernel_rfl) (by simp) ?_
    refine AllReadyH.cons rfl (fun K hK => ?_) AllReadyH.nil
    refine step_append_run rfl (.tmp 33) (.tmp 39) 40 rfl _ _ _ _ rfl rfl (unhide HRUN) ?_
    refine hK.out _ _ ((unhide OX3)) (fun hHeld => ?_)
    clear hK K
    try simp only [Act.put, List.setIfInBounds_toArray, List.set_cons_zero, List.set_cons_succ, List.getElem_toArray, List.getElem_cons_succ, List.getElem_cons_zero]
    refine wpAnyH_take (i := 11) (v := ?v23) rfl (by kernel_rfl) (by kernel_rfl) (by kernel_rfl) (fun _ _ _ h => h) (Or.inl ⟨by rfl, ?hy23⟩) (by assumption) ?rest23
    case hy23 =>
      intro w hSw
      go_simp
      try with_reducible rfl
    try simp only [Act.put, List.setIfInBounds_toArray, List.set_cons_zero, List.set_cons_succ, List.getElem_toArray, List.getElem_cons_succ, List.getElem_cons_zero]
    refine wpAnyH_done (by kernel_rfl) ?_ _
    go_wp2_with fail
    rw [Ae.zeros_eq]
    have hAL : (allB key t).length = 16 * (m + 1) := by rw [unhide HAB, List.length_append, unhide HTL, unhide HLL]; omega
    have hm1 : m + 1 ≤ 8796093022208 := unhide HM1
    refine (chain_any cb (m + 1) (sealF key) (fun s hs => sealF_length key h s hs) zero16 (allB key t) rfl hAL hm1 _ x3 (hide ((unhide HAY).new (unhide OX3))) wy.heap.size (by rw [bflat_all _ _ hAL]; exact unhide OWN2)).mono ?_
    rintro e x4 ⟨v44, rfl, h44, y4⟩
    have hcl := chT_length (sealF key) (fun s hs => sealF_length key h s hs) zero16 (allB key t) rfl (m + 1) hAL (m + 1) (Nat.le_refl _)
    obtain ⟨g4, cap4, rfl⟩ := ownsRow_succ h44
    have hw := Blks.ofOwns hcl (by rw [bflat_all _ _ hcl]; exact h44)
    have hcap4 : m + 1 ≤ cap4 := by
      rcases h44.2 with ⟨e, h0⟩ | ⟨g, c2, cur, e, h1⟩
      · simp at e
      · simp only [Value.slice.injEq] at e
        obtain ⟨_, _, rfl⟩ := e
        have := h1.2.2
        omega
    have hsub : wrap64 (m : Int) = (m : Int) := w64 _ (by omega) (by omega)
    have Q4 := hide ((unhide OX3).trans y4 (fun _ _ e => e))
    have HW := hide hw
    have hmm : (m : Int) ≤ (m : Int) + 1 := by omega
    have hmc : (m : Int) ≤ (cap4 : Int) := by omega
    have hncm : ¬ cap4 = m := by omega
    have hm1s : m + 1 - m = 1 := by omega
    have HJ : Hid (Blks x4 (.slice (some ⟨g4, m * 16, none⟩) 1 (cap4 - m)) 1 (macT key t)) := by
      obtain ⟨ao, c5, g5, off5, e5, h5, r5⟩ := hw
      obtain ⟨rfl, h6⟩ := h5 (by omega)
      simp only [Value.slice.injEq, Option.some.injEq, Addr.mk.injEq, and_true, true_and] at e5
      obtain ⟨⟨rfl, rfl⟩, rfl⟩ := e5
      refine ⟨_, _, _, _, rfl, fun _ => ⟨rfl, h6⟩, fun k hk => ?_⟩
      obtain rfl : k = 0 := by omega
      have h7 := r5 m (by omega)
      rw [Nat.zero_add] at h7
      rw [Nat.zero_mul, Nat.add_zero]
      have hcm := chT_length (sealF key) (fun s hs => sealF_length key h s hs) zero16 (allB key t) rfl (m + 1) hAL m (by omega)
      have hch := ch_length (sealF key) (fun s hs => sealF_length key h s hs) zero16 (allB key t) rfl (m + 1) hAL (m + 1) (Nat.le_refl _)
      have e8 : blkOf (chT (sealF key) zero16 (allB key t) (m + 1)) m = macT key t := by
        rw [unhide HMT]
        show ((chT (sealF key) zero16 (allB key t) m ++ ch (sealF key) zero16 (allB key t) (m + 1)).drop (16 * m)).take 16 = _
        rw [← hcm, List.drop_left, List.take_of_length_le (by omega)]
      have e9 : blkOf (macT key t) 0 = macT key t := by
        show ((macT key t).drop (16 * 0)).take 16 = _
        rw [unhide HMT, Nat.mul_zero, List.drop_zero, List.take_of_length_le (by omega)]
      rw [e8] at h7
      rw [e9]
      exact h7
    have HML : Hid ((macT key t).length = 16 * 1) := by
      show _ = _
      rw [unhide HMT]
      exact ch_length (sealF key) (fun s hs => sealF_length key h s hs) zero16 (allB key t) rfl (m + 1) hAL (m + 1) (Nat.le_refl _)
    clear h44 y4 hw hcl hAL hm1
    go_wp2_with fail
    refine (join_any 1 (macT key t) (unhide HML) (by decide) _ x4 (unhide HJ)).mono ?_
    rintro e x5 ⟨v50, rfl, h50, y5⟩
    have H50 := hide h50
    have Q5 := hide ((unhide Q4).trans y5 (fun _ _ e => e))
    clear h50 y5
    go_wp2
    go_ret2
    refine ⟨v50, rfl, ?_, (unhide OY).trans (unhide Q5) (fun _ _ e => e)⟩
    exact ownsRow_base (unhide H50) (by have h1 := (unhide OY).size; have h2 := (unhide Q4).size; omega)
  · have H2 := hide hback
    have hcc2 : ¬ tc - C = 0 := by omega
    clear hback hcut hm hm2 hl2 hC
    go_wp2_with fail
    refine wp_region_held_drew (S := (fun w' => Only (fun _ => False) wy w')) (by kernel_rfl) ((Only.refl _ _).drew) (fun hHeld => ?_)
    refine wpAnyH_take (i := 0) (v := ?v24) rfl (by kernel_rfl) (by kernel_rfl) (by kernel_rfl) (fun _ _ _ h => h) (Or.inl ⟨by rfl, ?hy24⟩) (by assumption) ?rest24
    case hy24 =>
      intro w hSw
      go_simp
      try with_reducible rfl
    try simp only [Act.put, List.setIfInBounds_toArray, List.set_cons_zero, List.set_cons_succ, List.getElem_toArray, List.getElem_cons_succ, List.getElem_cons_zero]
    refine wpAnyH_take (i := 1) (v := ?v25) rfl (by kernel_rfl) (by kernel_rfl) (by kernel_rfl) (fun _ _ _ h => h) (Or.inl ⟨by rfl, ?hy25⟩) (by assumption) ?rest25
    case hy25 =>
      intro w hSw
      go_simp
      try with_reducible rfl
    try simp only [Act.put, List.setIfInBounds_toArray, List.set_cons_zero, List.set_cons_succ, List.getElem_toArray, List.getElem_cons_succ, List.getElem_cons_zero]
    refine wpAnyH_take (i := 2) (v := ?v26) rfl (by kernel_rfl) (by kernel_rfl) (by kernel_rfl) (fun _ _ _ h => h) (Or.inl ⟨by rfl, ?hy26⟩) (by assumption) ?rest26
    case hy26 =>
      intro w hSw
      go_simp
      try with_reducible rfl
    try simp only [Act.put, List.setIfInBounds_toArray, List.set_cons_zero, List.set_cons_succ, List.getElem_toArray, List.getElem_cons_succ, List.getElem_cons_zero]
    refine wpAnyH_take (i := 4) (v := ?v27) rfl (by kernel_rfl) (by kernel_rfl) (by kernel_rfl) (fun _ _ _ h => h) (Or.inl ⟨by rfl, ?hy27⟩) (by assumption) ?rest27
    case hy27 =>
      intro w hSw
      go_simp
      try with_reducible rfl
    try simp only [Act.put, List.setIfInBounds_toArray, List.set_cons_zero, List.set_cons_succ, List.getElem_toArray, List.getElem_cons_succ, List.getElem_cons_zero]
    refine wpAnyH_take (i := 5) (v := ?v28) rfl (by kernel_rfl) (by kernel_rfl) (by kernel_rfl) (fun _ _ _ h => h) (Or.inl ⟨by rfl, ?hy28⟩) (by assumption) ?rest28
    case hy28 =>
      intro w hSw
      go_simp
      try with_reducible rfl
    try simp only [Act.put, List.setIfInBounds_toArray, List.set_cons_zero, List.set_cons_succ, List.getElem_toArray, List.getElem_cons_succ, List.getElem_cons_zero]
    refine wpAnyH_take (i := 7) (v := ?v29) rfl (by kernel_rfl) (by kernel_rfl) (by kernel_rfl) (fun _ _ _ h => h) (Or.inl ⟨by rfl, ?hy29⟩) (by assumption) ?rest29
    case hy29 =>
      intro w hSw
      (refine exec_load_mid 37 (.tmp 8) ?_ b8 0 ?_ (F1.map bv) _ (range_only (unhide A8).range hSw (fun e => e)) Try.underMB rfl (by rw [Try.sizeMB]; simp [unhide HFL]) <;> rfl)
    try simp only [Act.put, List.setIfInBounds_toArray, List.set_cons_zero, List.set_cons_succ, List.getElem_toArray, List.getElem_cons_succ, List.getElem_cons_zero]
    refine wpAnyH_take (i := 6) (v := ?v30) rfl (by kernel_rfl) (by kernel_rfl) (by kernel_rfl) (fun _ _ _ h => h) (Or.inl ⟨by rfl, ?hy30⟩) (by assumption) ?rest30
    case hy30 =>
      intro w hSw
      go_simp
      try with_reducible rfl
    try simp only [Act.put, List.setIfInBounds_toArray, List.set_cons_zero, List.set_cons_succ, List.getElem_toArray, List.getElem_cons_succ, List.getElem_cons_zero]
    refine wpAnyH_ready (rs := [3]) (by kernel_rfl) (by simp) ?_
    refine AllReadyH.cons rfl (fun K hK => ?_) AllReadyH.nil
    go_simp
    go_wp2_with fail; refine (blocks_has m (t.take C) (unhide HM) (unhide HTL) _ _ ((unhide H1).only ((Only.refl (fun _ => False) wy).drew) (fun _ _ _ e => e))).mono ?_; rintro e x1 ⟨v33, rfl, h33, y1⟩; have H33 := hide h33; have Q1 : Hid (Only (fun _ => False) wy x1) := ((Only.refl (fun _ => False) wy).drew).trans y1 (fun _ _ e => e); have HS1 := hide y1.size; clear y1 h33
    refine hK.out _ _ ((unhide Q1)) (fun hHeld => ?_)
    clear hK K
    try simp only [Act.put, List.setIfInBounds_toArray, List.set_cons_zero, List.set_cons_succ, List.getElem_toArray, List.getElem_cons_succ, List.getElem_cons_zero]
    refine wpAnyH_ready (rs := [8]) (by kernel_rfl) (by simp) ?_
    refine AllReadyH.cons rfl (fun K hK => ?_) AllReadyH.nil
    go_simp
    go_wp2_with fail; refine (ending_any (t.drop C) F1 (unhide HRL) (unhide HFL) _ x1 ((unhide H2).only (unhide Q1) (fun _ _ _ e => e))).mono ?_; rintro e x2 ⟨rfl, y2⟩; have Q2 : Hid (Only (fun _ => False) wy x2) := (unhide Q1).trans y2 (fun _ _ e => e); have Y2 := hide y2; clear y2
    refine hK.out _ _ ((unhide Q2)) (fun hHeld => ?_)
    clear hK K
    try simp only [Act.put, List.setIfInBounds_toArray, List.set_cons_zero, List.set_cons_succ, List.getElem_toArray, List.getElem_cons_succ, List.getElem_cons_zero]
    obtain ⟨L, hL⟩ : ∃ L, L = endB (t.drop C) F1 := ⟨_, rfl⟩
    have HLL : Hid (L.length = 16) := by show _ = _; rw [hL]; exact endB_length _ _ (unhide HFL)
    rw [← hL] at HAB ⊢
    clear hL
    have own0 : x2.ownsRow wy.heap.size 37 16 v33 m ((t.take C).map bv) := (unhide Y2).owns (by have h1 := unhide H33; rw [bflat_all _ m (unhide HTL)] at h1; exact h1) (fun _ _ e => e)
    have hlt33 := own0.lt
    obtain ⟨g2, cap2, x3, hrun, own2, op2⟩ := push16 x2 wy.heap.size v33 m (t.take C) L (unhide HLL) own0 (by have := unhide HM1; omega) (unhide Q2).size
    have HRUN := hide hrun
    rw [← unhide HAB] at own2
    have OWN2 := hide own2
    have OX3 : Hid (Only (fun _ => False) wy x3) := (unhide Q2).trans op2 (fun j hj e => absurd hj (Nat.not_lt.2 (hlt33 j e).1))
    clear hrun own2 op2 own0 hlt33
    refine wpAnyH_ready (rs := [9]) (by kernel_rfl) (by simp) ?_
    refine AllReadyH.cons rfl (fun K hK => ?_) AllReadyH.nil
    refine step_rowBlk rfl (.tmp 38) rfl L (unhide HLL) rfl ?_
    refine hK.out _ _ (((unhide Q2).alloc _)) (fun hHeld => ?_)
    clear hK K
    try simp only [Act.put, List.setIfInBounds_toArray, List.set_cons_zero, List.set_cons_succ, List.getElem_toArray, List.getElem_cons_succ, List.getElem_cons_zero]
    refine wpAnyH_ready (rs := [10]) (by kernel_rfl) (by simp) ?_
    refine AllReadyH.cons rfl (fun K hK => ?_) AllReadyH.nil
    refine step_append_run rfl (.tmp 33) (.tmp 39) 40 rfl _ _ _ _ rfl rfl (unhide HRUN) ?_
    refine hK.out _ _ ((unhide OX3)) (fun hHeld => ?_)
    clear hK K
    try simp only [Act.put, List.setIfInBounds_toArray, List.set_cons_zero, List.set_cons_succ, List.getElem_toArray, List.getElem_cons_succ, List.getElem_cons_zero]
    refine wpAnyH_take (i := 11) (v := ?v31) rfl (by kernel_rfl) (by kernel_rfl) (by kernel_rfl) (fun _ _ _ h => h) (Or.inl ⟨by rfl, ?hy31⟩) (by assumption) ?rest31
    case hy31 =>
      intro w hSw
      go_simp
      try with_reducible rfl
    try simp only [Act.put, List.setIfInBounds_toArray, List.set_cons_zero, List.set_cons_succ, List.getElem_toArray, List.getElem_cons_succ, List.getElem_cons_zero]
    refine wpAnyH_done (by kernel_rfl) ?_ _
    go_wp2_with fail
    rw [Ae.zeros_eq]
    have hAL : (allB key t).length = 16 * (m + 1) := by rw [unhide HAB, List.length_append, unhide HTL, unhide HLL]; omega
    have hm1 : m + 1 ≤ 8796093022208 := unhide HM1
    refine (chain_any cb (m + 1) (sealF key) (fun s hs => sealF_length key h s hs) zero16 (allB key t) rfl hAL hm1 _ x3 (hide ((unhide HAY).new (unhide OX3))) wy.heap.size (by rw [bflat_all _ _ hAL]; exact unhide OWN2)).mono ?_
    rintro e x4 ⟨v44, rfl, h44, y4⟩
    have hcl := chT_length (sealF key) (fun s hs => sealF_length key h s hs) zero16 (allB key t) rfl (m + 1) hAL (m + 1) (Nat.le_refl _)
    obtain ⟨g4, cap4, rfl⟩ := ownsRow_succ h44
    have hw := Blks.ofOwns hcl (by rw [bflat_all _ _ hcl]; exact h44)
    have hcap4 : m + 1 ≤ cap4 := by
      rcases h44.2 with ⟨e, h0⟩ | ⟨g, c2, cur, e, h1⟩
      · simp at e
      · simp only [Value.slice.injEq] at e
        obtain ⟨_, _, rfl⟩ := e
        have := h1.2.2
        omega
    have hsub : wrap64 (m : Int) = (m : Int) := w64 _ (by omega) (by omega)
    have Q4 := hide ((unhide OX3).trans y4 (fun _ _ e => e))
    have HW := hide hw
    have hmm : (m : Int) ≤ (m : Int) + 1 := by omega
    have hmc : (m : Int) ≤ (cap4 : Int) := by omega
    have hncm : ¬ cap4 = m := by omega
    have hm1s : m + 1 - m = 1 := by omega
    have HJ : Hid (Blks x4 (.slice (some ⟨g4, m * 16, none⟩) 1 (cap4 - m)) 1 (macT key t)) := by
      obtain ⟨ao, c5, g5, off5, e5, h5, r5⟩ := hw
      obtain ⟨rfl, h6⟩ := h5 (by omega)
      simp only [Value.slice.injEq, Option.some.injEq, Addr.mk.injEq, and_true, true_and] at e5
      obtain ⟨⟨rfl, rfl⟩, rfl⟩ := e5
      refine ⟨_, _, _, _, rfl, fun _ => ⟨rfl, h6⟩, fun k hk => ?_⟩
      obtain rfl : k = 0 := by omega
      have h7 := r5 m (by omega)
      rw [Nat.zero_add] at h7
      rw [Nat.zero_mul, Nat.add_zero]
      have hcm := chT_length (sealF key) (fun s hs => sealF_length key h s hs) zero16 (allB key t) rfl (m + 1) hAL m (by omega)
      have hch := ch_length (sealF key) (fun s hs => sealF_length key h s hs) zero16 (allB key t) rfl (m + 1) hAL (m + 1) (Nat.le_refl _)
      have e8 : blkOf (chT (sealF key) zero16 (allB key t) (m + 1)) m = macT key t := by
        rw [unhide HMT]
        show ((chT (sealF key) zero16 (allB key t) m ++ ch (sealF key) zero16 (allB key t) (m + 1)).drop (16 * m)).take 16 = _
        rw [← hcm, List.drop_left, List.take_of_length_le (by omega)]
      have e9 : blkOf (macT key t) 0 = macT key t := by
        show ((macT key t).drop (16 * 0)).take 16 = _
        rw [unhide HMT, Nat.mul_zero, List.drop_zero, List.take_of_length_le (by omega)]
      rw [e8] at h7
      rw [e9]
      exact h7
    have HML : Hid ((macT key t).length = 16 * 1) := by
      show _ = _
      rw [unhide HMT]
      exact ch_length (sealF key) (fun s hs => sealF_length key h s hs) zero16 (allB key t) rfl (m + 1) hAL (m + 1) (Nat.le_refl _)
    clear h44 y4 hw hcl hAL hm1
    go_wp2_with fail
    refine (join_any 1 (macT key t) (unhide HML) (by decide) _ x4 (unhide HJ)).mono ?_
    rintro e x5 ⟨v50, rfl, h50, y5⟩
    have H50 := hide h50
    have Q5 := hide ((unhide Q4).trans y5 (fun _ _ e => e))
    clear h50 y5
    go_wp2
    go_ret2
    refine ⟨v50, rfl, ?_, (unhide OY).trans (unhide Q5) (fun _ _ e => e)⟩
    exact ownsRow_base (unhide H50) (by have h1 := (unhide OY).size; have h2 := (unhide Q4).size; omega)

end Md
end Go.Proofs.Ytdmcnblnoiahcaa

namespace Go.Proofs.Ytdmcnblnoiahcaa
open Go.RowKit
set_option linter.unusedSimpArgs false
set_option linter.unusedVariables false
namespace Md
open Ae (zero16 Arr ag_one range_only mixd mixd_zero mixd_all mixd_at mixd_set gt gt_some xor_bv)

set_option maxRecDepth 100000 in
set_option maxHeartbeats 2000000 in
theorem rdouble_any (s : List UInt8) (w : World) (hs : s.length = 16) :
    Calls Try.prog 31 #[.agg (s.map bv).toArray] w fun e w' => e = .returned (.agg ((dbl s).map bv).toArray) ∧ Only (fun _ => False) w w' := by
  have hal := shlA_length s
  obtain ⟨w3, b1, b2, b3, e3, eb3, eb2, eb1, a1, a2, a3, o3, n12, n13, n23, hb⟩ := Ae.three w s zero16 zero16 36 36 36
  go_enter Try.func31, Try.ntmps31
  go_upto_region 2 with fail
  rw [Ae.zeros_eq, ← e3, ← eb3, ← eb2, ← eb1]
  clear e3 eb3 eb2 eb1
  have A1 := hide a1
  have A2 := hide a2
  have A3 := hide a3
  have O3 := hide o3
  have HB := hide hb
  clear a1 a3 o3 hb a2
  go_wp2
  go_loopw [4] (fun i wr => ∃ n : Nat, n ≤ 16 ∧ i = .int .i64 n ∧ Hid (Arr wr b3 36 (mixd (shlA s) zero16 n)) ∧ Hid (Only (fun j => j = b3) w3 wr)) (fun i _ => 16 - (intOf i).toNat)
  case atStart => exact ⟨0, Nat.zero_le _, rfl, by rw [mixd_zero]; exact A3, Only.refl _ _⟩
  case round =>
    rename World => wr
    obtain ⟨n, hn, rfl, har, hor⟩ := hrel
    by_cases hlt : n < 16
    · have hm := mixd_at (shlA s) zero16 16 n hal rfl hlt
      have hmz : (mixd (shlA s) zero16 n)[n]? = some (gt zero16 n) := by rw [hm]; exact gt_some zero16 n (by simp [zero16]; omega)
      have hcB := (unhide har).cell n _ hmz
      have hcA := (unhide hor).cell ((unhide A1).cell n _ (gt_some s n (by omega))) (fun e => n13 e)
      have hf := (unhide har).free n
      have hxl : ((gt s n).toNat : Int) * (2 : Int) % (256 : Int) = ((gt s n <<< 1).toNat : Int) := shl_bv _
      by_cases h15 : n = 15
      · subst h15
        have hx15 : (shlA s)[15]? = some (gt s 15 <<< 1) := by rw [shlA_at s 15 (by decide)]; unfold shl1; simp
        have hw2 := (unhide har).set 15 (gt s 15 <<< 1)
        rw [mixd_set _ _ 16 15 hal rfl hlt _ hx15] at hw2
        have HW := hide hw2
        have HO := hide ((unhide hor).here 15 (.int .u8 ((gt s 15 <<< 1).toNat : Int)))
        clear hm hmz har hor hw2 hx15
        generalize gt s 15 <<< 1 = y at *
        generalize gt s 15 = x at *
        go_wp2
        go_roundw
        case rel => exact ⟨15 + 1, by omega, by go_num, unhide HW, unhide HO⟩
        case measure => simp [intOf]
      · have hn14 : n < 15 := by omega
        obtain ⟨x1, hx1⟩ : ∃ x1, x1 = gt s n <<< 1 := ⟨_, rfl⟩
        obtain ⟨y0, hy0⟩ : ∃ y0, y0 = gt s (n + 1) := ⟨_, rfl⟩
        obtain ⟨z, hz⟩ : ∃ z, z = y0 >>> 7 := ⟨_, rfl⟩
        obtain ⟨r, hr⟩ : ∃ r, r = x1 ||| z := ⟨_, rfl⟩
        have hrs : (shlA s)[n]? = some r := by rw [shlA_at s n hlt, hr, hx1, hz, hy0, or_xor]; unfold shl1; rw [if_pos hn14]
        have hyr : (y0.toNat : Int) / (128 : Int) = (z.toNat : Int) := by rw [hz]; exact shr_bv y0
        have hor2 : bits .or .u8 (x1.toNat : Int) (z.toNat : Int) = (r.toNat : Int) := by rw [hr]; exact Ae.or_bv x1 z
        have a1' := (unhide har).set n x1
        obtain ⟨wx, hwx⟩ : ∃ wx, wx = wr.setCell ⟨b3, n, none⟩ (.int .u8 (x1.toNat : Int)) := ⟨_, rfl⟩
        rw [← hwx] at a1'
        have ox : Only (fun j => j = b3) w3 wx := by rw [hwx]; exact (unhide hor).here n _
        have hlm : n < (mixd (shlA s) zero16 n).length := (List.getElem?_eq_some_iff.1 hmz).1
        have HC1 := hide (a1'.cell n x1 (by rw [List.getElem?_set_self hlm]))
        obtain ⟨p, hp⟩ : ∃ p, p = n + 1 := ⟨_, rfl⟩
        have HC2 := hide (ox.cell ((unhide A1).cell p y0 (by rw [hy0, hp]; exact gt_some s (n + 1) (by omega))) (fun e => n13 e))
        have M : Hid (IntKind.i64.wrap ((n : Int) + 1) = (p : Int)) := by show _ = _; rw [wrap_small _ (by omega) (by omega)]; omega
        have hp16 : (p : Int) < 16 := by omega
        have a2' := a1'.set n r
        rw [List.set_set, mixd_set _ _ 16 n hal rfl hlt _ hrs] at a2'
        have hfx := a1'.free n
        have HW := hide a2'
        have HO := hide (ox.here n (.int .u8 (r.toNat : Int)))
        have HX := hide hwx
        rw [← hx1] at hxl
        clear hm hmz har hor a1' a2' hrs ox hlm hwx hx1 hy0 hz hr hp
        generalize gt s n = x at *
        have hn15 : (n : Int) < 15 := by omega
        have hn16 : (n : Int) + 1 < 16 := by omega
        go_wp2_with fail
        rw [← unhide HX]
        refine wp_region_last_drew (S := (fun w' => Only (fun _ => False) wx w')) 11 (by kernel_rfl) ((Only.refl _ _).drew) (fun hHeld => ?_)
        refine wpAnyL_take (i := 0) (v := ?v32) rfl (by kernel_rfl) (by kernel_rfl) (by kernel_rfl) (by kernel_rfl) (fun _ _ _ h => h) (Or.inl ⟨by rfl, ?hy32⟩) (by assumption) ?rest32
        case hy32 =>
          intro w hSw
          go_simp
          try with_reducible rfl
        try simp only [Act.put, List.setIfInBounds_toArray, List.set_cons_zero, List.set_cons_succ, List.getElem_toArray, List.getElem_cons_succ, List.getElem_cons_zero]
        refine wpAnyL_take (i := 1) (v := ?v33) rfl (by kernel_rfl) (by kernel_rfl) (by kernel_rfl) (by kernel_rfl) (fun _ _ _ h => h) (Or.inl ⟨by rfl, ?hy33⟩) (by assumption) ?rest33
        case hy33 =>
          intro w hSw
          go_simp
          try with_reducible rfl
        try simp only [Act.put, List.setIfInBounds_toArray, List.set_cons_zero, List.set_cons_succ, List.getElem_toArray, List.getElem_cons_succ, List.getElem_cons_zero]
        refine wpAnyL_take (i := 2) (v := ?v34) rfl (by kernel_rfl) (by kernel_rfl) (by kernel_rfl) (by kernel_rfl) (fun _ _ _ h => h) (Or.inl ⟨by rfl, ?hy34⟩) (by assumption) ?rest34
        case hy34 =>
          intro w hSw
          go_simp
          try with_reducible rfl
        try simp only [Act.put, List.setIfInBounds_toArray, List.set_cons_zero, List.set_cons_succ, List.getElem_toArray, List.getElem_cons_succ, List.getElem_cons_zero]
        refine wpAnyL_take (i := 3) (v := ?v35) rfl (by kernel_rfl) (by kernel_rfl) (by kernel_rfl) (by kernel_rfl) (fun _ _ _ h => h) (Or.inl ⟨by rfl, ?hy35⟩) (by assumption) ?rest35
        case hy35 =>
          intro w hSw
          (have q := hSw.cell (unhide HC1) (fun e => e); go_simp; try with_reducible rfl)
        try simp only [Act.put, List.setIfInBounds_toArray, List.set_cons_zero, List.set_cons_succ, List.getElem_toArray, List.getElem_cons_succ, List.getElem_cons_zero]
        refine wpAnyL_take (i := 4) (v := ?v36) rfl (by kernel_rfl) (by kernel_rfl) (by kernel_rfl) (by kernel_rfl) (fun _ _ _ h => h) (Or.inl ⟨by rfl, ?hy36⟩) (by assumption) ?rest36
        case hy36 =>
          intro w hSw
          go_simp
          try with_reducible rfl
        try simp only [Act.put, List.setIfInBounds_toArray, List.set_cons_zero, List.set_cons_succ, List.getElem_toArray, List.getElem_cons_succ, List.getElem_cons_zero]
        refine wpAnyL_take (i := 5) (v := ?v37) rfl (by kernel_rfl) (by kernel_rfl) (by kernel_rfl) (by kernel_rfl) (fun _ _ _ h => h) (Or.inl ⟨by rfl, ?hy37⟩) (by assumption) ?rest37
        case hy37 =>
          intro w hSw
          (go_simp; rw [unhide M]; try with_reducible rfl)
        try simp only [Act.put, List.setIfInBounds_toArray, List.set_cons_zero, List.set_cons_succ, List.getElem_toArray, List.getElem_cons_succ, List.getElem_cons_zero]
        refine wpAnyL_take (i := 6) (v := ?v38) rfl (by kernel_rfl) (by kernel_rfl) (by kernel_rfl) (by kernel_rfl) (fun _ _ _ h => h) (Or.inl ⟨by rfl, ?hy38⟩) (by assumption) ?rest38
        case hy38 =>
          intro w hSw
          go_simp
          try with_reducible rfl
        try simp only [Act.put, List.setIfInBounds_toArray, List.set_cons_zero, List.set_cons_succ, List.getElem_toArray, List.getElem_cons_succ, List.getElem_cons_zero]
        refine wpAnyL_take (i := 7) (v := ?v39) rfl (by kernel_rfl) (by kernel_rfl) (by kernel_rfl) (by kernel_rfl) (fun _ _ _ h => h) (Or.inl ⟨by rfl, ?hy39⟩) (by assumption) ?rest39
        case hy39 =>
          intro w hSw
          (have q := hSw.cell (unhide HC2) (fun e => e); go_simp; try with_reducible rfl)
        try simp only [Act.put, List.setIfInBounds_toArray, List.set_cons_zero, List.set_cons_succ, List.getElem_toArray, List.getElem_cons_succ, List.getElem_cons_zero]
        refine wpAnyL_take (i := 8) (v := ?v40) rfl (by kernel_rfl) (by kernel_rfl) (by kernel_rfl) (by kernel_rfl) (fun _ _ _ h => h) (Or.inl ⟨by rfl, ?hy40⟩) (by assumption) ?rest40
        case hy40 =>
          intro w hSw
          go_simp
          try with_reducible rfl
        try simp only [Act.put, List.setIfInBounds_toArray, List.set_cons_zero, List.set_cons_succ, List.getElem_toArray, List.getElem_cons_succ, List.getElem_cons_zero]
        refine wpAnyL_take (i := 9) (v := ?v41) rfl (by kernel_rfl) (by kernel_rfl) (by kernel_rfl) (by kernel_rfl) (fun _ _ _ h => h) (Or.inl ⟨by rfl, ?hy41⟩) (by assumption) ?rest41
        case hy41 =>
          intro w hSw
          go_simp
          try with_reducible rfl
        try simp only [Act.put, List.setIfInBounds_toArray, List.set_cons_zero, List.set_cons_succ, List.getElem_toArray, List.getElem_cons_succ, List.getElem_cons_zero]
        refine wpAnyL_take (i := 10) (v := ?v42) rfl (by kernel_rfl) (by kernel_rfl) (by kernel_rfl) (by kernel_rfl) (fun _ _ _ h => h) (Or.inl ⟨by rfl, ?hy42⟩) (by assumption) ?rest42
        case hy42 =>
          intro w hSw
          go_simp
          try with_reducible rfl
        try simp only [Act.put, List.setIfInBounds_toArray, List.set_cons_zero, List.set_cons_succ, List.getElem_toArray, List.getElem_cons_succ, List.getElem_cons_zero]
        have hc8 := unhide HC1
        refine wpAnyL_ready (rs := [11]) (by kernel_rfl) (by simp) ?_
        refine AllReadyL.last rfl (fun K hK => ?_)
        go_simp
        refine hK.out _ _ (trivial) (fun hHeld => ?_)
        clear hK K
        try simp only [Act.put, List.setIfInBounds_toArray, List.set_cons_zero, List.set_cons_succ, List.getElem_toArray, List.getElem_cons_succ, List.getElem_cons_zero]
        refine wpAnyL_done (by kernel_rfl) ?_ _
        go_wp2
        go_roundw
        case rel => exact ⟨n + 1, by omega, by go_num, unhide HW, (unhide HO).drew⟩
        case measure => simp [intOf]; omega
    · obtain rfl : n = 16 := by omega
      have har2 := unhide har
      rw [mixd_all _ _ 16 hal rfl] at har2
      have hc1 := (unhide hor).cell ((unhide A1).cell 0 _ (gt_some s 0 (by omega))) (fun e => n13 e)
      have hdl := dbl_length s
      obtain ⟨D, hD⟩ : ∃ D, D = dbl s := ⟨_, rfl⟩
      rw [← hD] at hdl
      have HD := hide hD
      have HDL := hide hdl
      have hdq := dbl_eq s
      rw [← hD] at hdq
      have hx : ((gt s 0).toNat : Int) / (128 : Int) = ((gt s 0 >>> 7).toNat : Int) := shr_bv _
      rcases top_bit (gt s 0) with e | e
      · rw [e] at hx hdq
        rw [if_neg (show ¬ (0 : UInt8) = 1 by decide)] at hdq
        rw [← hdq] at har2
        have hx2 : ((gt s 0).toNat : Int) / (128 : Int) = 0 := hx
        have hr1 := har2.range
        have HA2 := hide ((unhide A2).only (unhide hor) (fun e => n23 e))
        have HOR := hor
        clear hx hdq hD e har hor har2 hdl
        generalize gt s 0 = x at *
        have HT := hide (Ae.there16 (unhide HA2) rfl (unhide HDL))
        have HZ := hide (Ae.size16s (unhide HDL))
        clear A1 A2 A3
        go_wp2_with (first
          | (refine wpList_load_mid rfl 36 (.tmp 3) rfl b3 0 rfl (D.map bv) _ hr1 Ae.Try.under16 rfl (by rw [Ae.Try.size16]; simp [unhide HDL]) ?_)
          | (refine wpList_store_mid rfl 36 (.tmp 2) (.tmp 36) rfl b2 0 (D.map bv).toArray rfl rfl (unhide HT) (unhide HZ) (ag_one _) ?_))
        refine bodyPost_ret (results_cell_row rfl _ _ b2 36 _ _ _ rfl ((unhide HA2).stored _ (by rw [unhide HDL]; rfl)).out Ae.Try.under16 rfl (by rw [Ae.Try.size16]; simp [unhide HDL])) rfl ?_
        exact ⟨by rw [unhide HD], Only.setCells (S := fun _ => False) (fun hj => ((unhide HB _ hj).2.1 rfl).elim) _ _ _ ((unhide O3).trans (unhide HOR) (fun j hj e => ((unhide HB j hj).2.2 e).elim))⟩
      · rw [e] at hx hdq
        rw [if_pos rfl] at hdq
        have hx2 : ((gt s 0).toNat : Int) / (128 : Int) = 1 := hx
        have hc15 := har2.cell 15 _ (shlA_at s 15 (by decide))
        have hf15 := har2.free 15
        have har3 := har2.set 15 (shl1 s 15 ^^^ 135)
        rw [← hdq] at har3
        have hxo : bits .xor .u8 ((shl1 s 15).toNat : Int) 135 = ((shl1 s 15 ^^^ 135).toNat : Int) := xor_bv (shl1 s 15) 135
        have ho3 := (unhide hor).here 15 (.int .u8 ((shl1 s 15 ^^^ 135).toNat : Int))
        have hr1 := har3.range
        have HA2 := hide ((unhide A2).only ho3 (fun e => n23 e))
        have HOR := hide ho3
        clear hx hdq hD e har hor har2 har3 ho3 hdl
        generalize gt s 0 = x at *
        generalize shl1 s 15 ^^^ 135 = v at *
        generalize shl1 s 15 = y at *
        have HT := hide (Ae.there16 (unhide HA2) rfl (unhide HDL))
        have HZ := hide (Ae.size16s (unhide HDL))
        clear A1 A2 A3
        go_wp2_with (first
          | (refine wpList_load_mid rfl 36 (.tmp 3) rfl b3 0 rfl (D.map bv) _ hr1 Ae.Try.under16 rfl (by rw [Ae.Try.size16]; simp [unhide HDL]) ?_)
          | (refine wpList_store_mid rfl 36 (.tmp 2) (.tmp 36) rfl b2 0 (D.map bv).toArray rfl rfl (unhide HT) (unhide HZ) (ag_one _) ?_))
        refine bodyPost_ret (results_cell_row rfl _ _ b2 36 _ _ _ rfl ((unhide HA2).stored _ (by rw [unhide HDL]; rfl)).out Ae.Try.under16 rfl (by rw [Ae.Try.size16]; simp [unhide HDL])) rfl ?_
        exact ⟨by rw [unhide HD], Only.setCells (S := fun _ => False) (fun hj => ((unhide HB _ hj).2.1 rfl).elim) _ _ _ ((unhide O3).trans (unhide HOR) (fun j hj e => ((unhide HB j hj).2.2 e).elim))⟩

end Md
end Go.Proofs.Ytdmcnblnoiahcaa
