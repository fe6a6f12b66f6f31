/-
  More on the disk's plain rules: a disk that does not fall; what a sector has behind a flush, behind a crash.
  locksmithlaw4's known: a new disk's log.
  locksmithlaw4's texts and units.
  locksmithlaw4's units.
-/
import Derived.Test.YtoffcbopolonoaaDkSpec
import Derived.Test.YtoffcbopolonoaaWalDo
import Derived.Test.YtoffcbopolonoaaArgSteps
import Derived.Test.YtoffcbopolonoaaHandPick
import Derived.Test.YtoffcbopolonoaaStr
namespace Go.Proofs.Ytoffcbopolonoaa
set_option linter.unusedSimpArgs false
set_option linter.unusedVariables false

structure Calm (d : Dk) : Prop where
  down : d.down = false
  fuse : d.fuse = -1

theorem Calm.fell {d : Dk} (h : Calm d) : d.fell = false := by unfold Dk.fell; rw [h.down, h.fuse]; rfl
theorem Calm.spent {d : Dk} (h : Calm d) : d.spent = { d with works := d.works + 1 } := by
  unfold Dk.spent
  rw [h.fuse]
  simp
theorem Calm.write {d : Dk} (h : Calm d) (k : Nat) (hk : k < d.secs.length) (bs : List UInt8) (hb : bs.length = 64) : d.write k bs = { d with pend := d.pend ++ [(k, bs)], works := d.works + 1 } ∧ d.writeE k bs = 0 := by
  have ht : d.there k = true := by unfold Dk.there; simp; omega
  unfold Dk.write Dk.writeE
  constructor
  · rw [if_pos ⟨ht, hb⟩, h.fell, h.spent]
    simp
  · rw [if_pos ⟨ht, hb⟩, h.fell]
    rfl
theorem Calm.flush {d : Dk} (h : Calm d) : d.flush = { d with secs := d.secs.putAll d.pend, pend := [], works := d.works + 1 } ∧ d.flushE = 0 := by
  unfold Dk.flush Dk.flushE
  rw [h.fell, h.spent]
  exact ⟨rfl, rfl⟩
theorem Calm.written {d : Dk} (h : Calm d) (p w) : Calm { d with pend := p, works := w } := ⟨h.down, h.fuse⟩
theorem Calm.flushed {d : Dk} (h : Calm d) (s p w) : Calm { d with secs := s, pend := p, works := w } := ⟨h.down, h.fuse⟩
theorem Calm.crashed (d : Dk) (fs) : Calm (d.crash fs) := ⟨rfl, rfl⟩
theorem Calm.new (n : Nat) : Calm (Dk.new n) := ⟨rfl, rfl⟩

theorem Calm.read {d : Dk} (h : Calm d) (hp : d.pend = []) (k : Nat) (hk : k < d.secs.length) : d.read k = (d.secs.getD k none).getD [] ∧ d.readE k = if (d.secs.getD k none).isSome then 0 else 8 := by
  have ht : d.there k = true := by unfold Dk.there; simp; omega
  have hl : d.look k = d.secs.getD k none := by unfold Dk.look; rw [hp]; rfl
  unfold Dk.read Dk.readE
  rw [ht, h.down]
  simp [hl]

theorem lastOf_append (l : Pends) (p : Nat × List UInt8) (k : Nat) : lastOf (l ++ [p]) k = if p.1 = k then some p.2 else lastOf l k := by
  unfold lastOf
  rw [List.foldl_append]
  rfl

theorem putAll_append (s : Secs) (l : Pends) (p : Nat × List UInt8) : s.putAll (l ++ [p]) = (s.putAll l).put p := by
  unfold Secs.putAll
  rw [List.foldl_append]
  rfl

theorem getD_set (s : Secs) (i k : Nat) (y : Option (List UInt8)) (hi : i < s.length) : (s.set i y).getD k none = if i = k then y else s.getD k none := by
  simp only [List.getD_eq_getElem?_getD, List.getElem?_set]
  by_cases e : i = k
  · subst e; simp [hi]
  · simp [e]

/-- what a sector has when all that pends is done -/
theorem putAll_get (s : Secs) (k : Nat) : ∀ l : Pends, (∀ p ∈ l, p.1 < s.length) → (s.putAll l).getD k none = match lastOf l k with
    | some b => some b
    | none => s.getD k none := by
  intro l
  have key : ∀ n, ∀ l : Pends, l.length = n → (∀ p ∈ l, p.1 < s.length) → (s.putAll l).getD k none = match lastOf l k with
      | some b => some b
      | none => s.getD k none := by
    intro n
    induction n with
    | zero =>
      intro l hl _
      have : l = [] := List.eq_nil_of_length_eq_zero hl
      subst this
      rfl
    | succ n ih =>
      intro l hl hp
      have hne : l ≠ [] := fun e => by rw [e] at hl; simp at hl
      have hd := List.dropLast_concat_getLast hne
      rw [← hd, putAll_append, lastOf_append]
      have h1 := ih l.dropLast (by simp; omega) (fun p hp' => hp p (List.dropLast_subset l hp'))
      have h2 := hp _ (List.getLast_mem hne)
      unfold Secs.put
      rw [getD_set _ _ _ _ (by rw [Secs.putAll_length]; exact h2)]
      by_cases e : (l.getLast hne).1 = k
      · rw [if_pos e, if_pos e]
      · rw [if_neg e, if_neg e]
        exact h1
  exact key l.length l rfl

/-- writes that fell on no sector twice, by a crash: none is hit but its own -/
theorem crashTo_other (fs : List Int) (l : Pends) (s : Secs) (k : Nat) : ∀ m, (∀ p ∈ l, p.1 ≠ k) → (crashTo fs l s m).getD k none = s.getD k none := by
  intro m h
  induction m with
  | zero => rfl
  | succ m ih =>
    unfold crashTo
    split
    · exact ih
    · rename_i p hp
      have hne := h p (List.mem_of_getElem? hp)
      rw [← ih]
      unfold Secs.hit
      split
      · simp only [Secs.put, List.getD_eq_getElem?_getD, List.getElem?_set_ne hne]
      · split
        · simp only [List.getD_eq_getElem?_getD, List.getElem?_set_ne hne]
        · rfl

end Go.Proofs.Ytoffcbopolonoaa

namespace Go.Proofs.Ytoffcbopolonoaa
open Go.RowKit
set_option linter.unusedSimpArgs false
set_option linter.unusedVariables false
namespace Wal

theorem new_sec (n k : Nat) (hk : k < n) : (Dk.new n).sec k = some (List.replicate 64 0) := by
  have h := (Calm.new n).read rfl k (by simpa [Dk.new] using hk)
  have e : (Dk.new n).secs.getD k none = some (List.replicate 64 0) := by simp [Dk.new, List.getD, hk]
  rw [e] at h
  unfold Dk.sec
  rw [h.1, h.2]
  rfl

theorem hdOf_zero : hdOf (List.replicate 64 0) = Hd.zero := by
  simp only [hdOf, Hd.zero, Hd.mk.injEq]
  decide +kernel
theorem headIn_zero (half : Nat) : headIn half (some (List.replicate 64 0)) = none := by
  have h : ¬ (hdOf (List.replicate 64 0)).lay = List.replicate 64 0 := by rw [hdOf_zero]; decide +kernel
  unfold headIn
  simp only
  rw [if_neg (fun e => h e.2.2)]

theorem found_new (n : Nat) (h : 8 ≤ n) : found (Dk.new n) = (Hd.zero, 0) := by
  unfold found
  rw [new_sec n 0 (by omega), new_sec n 1 (by omega), headIn_zero]
  rfl
theorem unitsOf_new (n : Nat) : unitsOf (Dk.new n) Hd.zero = some [] := by
  unfold unitsOf
  simp [Hd.zero, readFrom, takeAll]
theorem half_new (n : Nat) : (Dk.new n).half = (n - 2) / 2 := by simp [Dk.half, Dk.new]

theorem hasU_lit2 {w : World} {g : Nat} {a b : Value} {u v : List UInt8} {P : Nat → Prop} {t : TypeId} {fr : Nat × Nat} (h : w.heap[g]? = some (.cells #[a, b] t fr)) (ha : Has w a u) (hb : Has w b v) (pa : ∀ k, blk a = some k → P k) (pb : ∀ k, blk b = some k → P k) (pg : P g) : HasU P w (.slice (some ⟨g, 0, none⟩) 2 2) [u, v] :=
  ⟨[a, b], hasV_lit (vs := [a, b]) h (by simp [maxLen]), ⟨ha, fun _ => pa, hb, fun _ => pb, trivial⟩, fun _ k hk => by simp only [blk, Option.map_some, Option.some.injEq] at hk; subst hk; exact pg⟩
theorem hasU_lit1 {w : World} {g : Nat} {a : Value} {u : List UInt8} {P : Nat → Prop} {t : TypeId} {fr : Nat × Nat} (h : w.heap[g]? = some (.cells #[a] t fr)) (ha : Has w a u) (pa : ∀ k, blk a = some k → P k) (pg : P g) : HasU P w (.slice (some ⟨g, 0, none⟩) 1 1) [u] :=
  ⟨[a], hasV_lit (vs := [a]) h (by simp [maxLen]), ⟨ha, fun _ => pa, trivial⟩, fun _ k hk => by simp only [blk, Option.map_some, Option.some.injEq] at hk; subst hk; exact pg⟩


def lg0 : Lg := ⟨Hd.zero, 0, false⟩

section
variable {w0 w w' : World} {F : Nat → Prop} {B L : Nat} {d : Dk} {l : Lg}

theorem Logs.newU (h : Logs w0 w F B L d l) {v : Value} {us : List (List UInt8)} (hv : HasU (fun j => w.heap.size ≤ j) w' v us) : HasU (fun j => ¬ F j ∧ j ≠ L) w' v us :=
  hv.mono (fun k _ hk => ⟨fun e => by have := h.dk.lt k e; omega, by have := h.lt; omega⟩)
theorem Logs.new1 (h : Logs w0 w F B L d l) {v : Value} {u : List UInt8} (hv : ∀ j, blk v = some j → w.heap.size ≤ j) : u ≠ [] → ∀ j, blk v = some j → ¬ F j ∧ j ≠ L :=
  fun _ k hk => by have := hv k hk; exact ⟨fun e => by have := h.dk.lt k e; omega, by have := h.lt; omega⟩
end


section
variable {w0 w w' : World} {F : Nat → Prop} {B L : Nat} {d : Dk} {l : Lg}

theorem open_new (n : Nat) (hn : 8 ≤ n) (h : Dks w0 w F B (Dk.new n)) : Calls Try.prog 8 #[.pointer (some ⟨B, 0, none⟩)] w fun e w' => ∃ L ao cap, e = .returned (.tuple #[.pointer (some ⟨L, 0, none⟩), .slice ao 0 cap, .int .i64 0]) ∧ Logs w0 w' F B L (Dk.new n) lg0 ∧ w.heap.size ≤ L ∧ Only (fun _ => False) w w' := by
  refine (open_any h (by simp [Dk.new]) rfl).mono ?_
  rintro e w' ⟨h1, ho⟩
  rw [found_new n hn, unitsOf_new] at h1
  obtain ⟨L, v, rfl, hv, hl, hL⟩ := h1
  obtain ⟨ao, cap, rfl, _⟩ := hv.hasU.shape
  rw [found_new n hn] at hl
  exact ⟨L, ao, cap, rfl, hl, hL, ho⟩

set_option maxHeartbeats 1000000 in
theorem known_any (w : World) : Calls Try.prog 10 #[] w fun e w' => e = .returned (.bool true) ∧ Only (fun _ => False) w w' := by
  obtain ⟨Z1, hZ1, hZe1⟩ := make_null 56 (by decide)
  obtain ⟨Z2, hZ2, hZe2⟩ := make_null 57 (by decide)
  have HZ1 := hide hZe1
  have HZ2 := hide hZe2
  have hz1 : ∀ w : World, (Instr.makeSlice 32 (.int .i64 56) (.int .i64 56)).run Try.prog w = .ok (.slice (some ⟨w.heap.size, 0, none⟩) 56 56) (w.alloc (.cells Z1 5)) := hZ1
  have hz2 : ∀ w : World, (Instr.makeSlice 32 (.int .i64 57) (.int .i64 57)).run Try.prog w = .ok (.slice (some ⟨w.heap.size, 0, none⟩) 57 57) (w.alloc (.cells Z2 5)) := hZ2
  clear hZ1 hZ2 hZe1 hZe2
  go_enter Try.func10, Try.ntmps10
  go_wp2_with fail
  refine (dks_new 8 (by decide) (by decide) w w (Only.refl _ _)).mono ?_
  rintro e w1 ⟨B, F, rfl, hd, hF, o1⟩
  have HOP := hide (open_new 8 (by decide) hd)
  clear hd
  go_wp2_with fail
  refine (unhide HOP).mono ?_
  rintro e w2 ⟨L, ao, cap, rfl, hl, hL, o2⟩
  have o02 := o1.trans o2 (fun _ _ e => e)
  have HL := hide hl
  have HHF := hide (half_any hl)
  have HRM := hide (room_any hl)
  rw [half_new] at HHF HRM
  rw [show lg0.hd.used = 0 from rfl] at HRM
  clear o1 o2 HOP
  go_wp2_with fail
  refine (unhide HHF).mono ?_
  rintro e w2 ⟨rfl, rfl⟩
  go_wp2_with fail
  refine (unhide HRM).mono ?_
  rintro e w3 ⟨rfl, nq, hw3⟩
  have o03 : Only (fun _ => False) w w3 := by rw [hw3]; exact o02.trans (Only.drews nq) (fun _ _ e => e)
  clear hw3
  have HS1 := hide (size_any (.slice (some ⟨w3.heap.size, 0, none⟩) 56 56) (List.replicate 56 0) (w3.alloc (.cells Z1 5)) (has_row (heap_alloc_new _ _) (unhide HZ1) (by simp) (by unfold maxLen; omega)) (by simp))
  rw [show size (List.replicate 56 0) = 1 from by decide +kernel] at HS1
  go_wp2_with fail
  refine (unhide HS1).mono ?_
  rintro e w4 ⟨rfl, hw4⟩
  have o04 : Only (fun _ => False) w w4 := by rw [hw4]; exact o03.alloc _
  clear hw4
  have HS2 := hide (size_any (.slice (some ⟨w4.heap.size, 0, none⟩) 57 57) (List.replicate 57 0) (w4.alloc (.cells Z2 5)) (has_row (heap_alloc_new _ _) (unhide HZ2) (by simp) (by unfold maxLen; omega)) (by simp))
  rw [show size (List.replicate 57 0) = 2 from by decide +kernel] at HS2
  go_wp2_with fail
  refine (unhide HS2).mono ?_
  rintro e w5 ⟨rfl, hw5⟩
  have o05 : Only (fun _ => False) w w5 := by rw [hw5]; exact o04.alloc _
  clear hw5
  go_wp2
  go_ret
  exact ⟨rfl, o05⟩
end

end Wal
end Go.Proofs.Ytoffcbopolonoaa

namespace Go.Proofs.Ytoffcbopolonoaa
open Go.RowKit
set_option linter.unusedSimpArgs false
set_option linter.unusedVariables false
namespace Wal

/-- unit i of raw sizes -/
def textAt (n : Int) (ss : List Int) (i : Nat) : List UInt8 := rawBytes ((ss.getD i 0) % 150).toNat (IntKind.i64.wrap (n + i))
def textsTo (n : Int) (ss : List Int) : Nat → List (List UInt8)
  | 0 => []
  | k + 1 => textsTo n ss k ++ [textAt n ss k]
def texts (s : St4) : List (List UInt8) := textsTo s.num s.ss (min s.ss.length 4)

theorem textsTo_length (n : Int) (ss : List Int) (k : Nat) : (textsTo n ss k).length = k := by induction k with
  | zero => rfl
  | succ k ih => simp [textsTo, ih]
theorem textAt_length (n : Int) (ss : List Int) (i : Nat) : (textAt n ss i).length ≤ 149 := by
  unfold textAt
  rw [rawBytes_length]
  have h1 := Int.emod_nonneg (ss.getD i 0) (by decide : (150 : Int) ≠ 0)
  have h2 := Int.emod_lt_of_pos (ss.getD i 0) (by decide : (0 : Int) < 150)
  omega
theorem textsTo_small (n : Int) (ss : List Int) (k : Nat) : ∀ u ∈ textsTo n ss k, u.length ≤ 149 := by induction k with
  | zero => intro u hu; cases hu
  | succ k ih =>
    intro u hu
    rcases List.mem_append.1 hu with hu | hu
    · exact ih u hu
    · rw [List.mem_singleton.1 hu]; exact textAt_length n ss k
theorem sizes_small (us : List (List UInt8)) (h : ∀ u ∈ us, u.length ≤ 149) : sizes us ≤ 3 * us.length := by
  unfold sizes
  induction us with
  | nil => simp
  | cons u r ih =>
    rw [List.map_cons, List.sum_cons, List.length_cons]
    have h1 := ih (fun v hv => h v (by simp [hv]))
    have h2 : size u ≤ 3 := by have := h u (by simp); unfold size secsOf; omega
    omega
theorem texts_length (s : St4) : (texts s).length ≤ 4 := by unfold texts; rw [textsTo_length]; omega
theorem texts_sizes (s : St4) : sizes (texts s) ≤ 12 := by
  have h1 := sizes_small (texts s) (textsTo_small _ _ _)
  have h2 := texts_length s
  omega

set_option maxHeartbeats 2000000 in
set_option maxRecDepth 100000 in
theorem texts_any (s : St4) (w : World) (h : Step4 w s) : Calls Try.prog 27 #[.agg s.cells.toArray] w fun e w' => ∃ v, e = .returned v ∧ OwnsU w.heap.size w' v (texts s) ∧ Only (fun _ => False) w w' := by
  obtain ⟨so, sc, hsv, hslc, hscm⟩ := h.sizes.shape
  rw [List.length_map] at hsv hslc
  have H := hide h
  have hnum := h.num
  unfold I64 at hnum
  unfold St4.cells
  rw [hsv]
  have HSV := hide hsv
  clear hsv h
  have hmx : (s.ss.length : Int) < 9223372036854775808 := by unfold maxLen at hscm; omega
  obtain ⟨m, hm⟩ : ∃ m, m = s.ss.length := ⟨_, rfl⟩
  rw [← hm] at HSV hslc hmx ⊢
  have HMM := hide hm
  clear hm
  go_enter Try.func27, Try.ntmps27
  go_wp2_with fail
  have hB := heap_alloc_new w (.cells #[.int .i64 s.what, .int .i64 s.num, .slice so m sc, s.fv, s.ov] 48)
  have o1 := (Only.refl (fun _ => False) w).alloc (.cells #[.int .i64 s.what, .int .i64 s.num, .slice so m sc, s.fv, s.ov] 48)
  generalize w.alloc (.cells #[.int .i64 s.what, .int .i64 s.num, .slice so m sc, s.fv, s.ov] 48) = w1 at *
  have HB := hide hB
  have HO1 := hide o1
  have hbl := lt_of_block hB
  clear hB o1
  go_loopw [3, 4] (fun p i wr => ∃ k : Nat, k ≤ m ∧ k ≤ 4 ∧ i = .int .i64 k ∧ OwnsU w1.heap.size wr p (textsTo s.num s.ss k) ∧ Only (fun _ => False) w1 wr) (fun _ i _ => 4 - (intOf i).toNat)
  case atStart => exact ⟨0, Nat.zero_le _, by decide, rfl, ownsU_nil _ _, Only.refl _ _⟩
  case round =>
    obtain ⟨k, hkm, hk4, rfl, hu, ho⟩ := hrel
    have HU := hide hu
    have HO := hide ho
    obtain ⟨c0, c1, c2, c3, c4, cf⟩ := cells_five (ho.heap (unhide HB) (fun h => h))
    clear hu ho
    have hend : ∀ v, OwnsU w1.heap.size wr v (textsTo s.num s.ss k) → (k = m ∨ k = 4) → OwnsU w.heap.size wr v (texts s) := fun v hv hk => by
      unfold texts
      rw [← unhide HMM, show min m 4 = k by omega]
      exact hv.base (unhide HO1).size
    have HEND := hide hend
    clear hend
    by_cases hlt : k < m
    · by_cases hl4 : k < 4
      · have hli : (k : Int) < m := by omega
        have hl4i : (k : Int) < 4 := by omega
        go_wp2_with fail
        have hsz0 := (unhide H).sizes
        rw [unhide HSV] at hsz0
        have hsz1 := (hsz0.only (unhide HO1) (fun _ _ _ h => h)).only (unhide HO) (fun _ _ _ h => h)
        have hkl : k < (s.ss.map (Value.int .i64)).length := by rw [List.length_map, ← unhide HMM]; exact hlt
        obtain ⟨bb, off, hso, hmeq, hcs⟩ := hsz1.at (by omega)
        clear hmeq
        subst hso
        have hck := hcs k hkl
        have hbw := hsz0.blk_lt (fun e => by rw [e] at hkl; simp at hkl) bb rfl
        have hgd : s.ss.getD k 0 = s.ss[k]'(by rw [← unhide HMM]; exact hlt) := by simp [List.getD, List.getElem?_eq_getElem (show k < s.ss.length by rw [← unhide HMM]; exact hlt)]
        rw [List.getElem_map, ← hgd] at hck
        obtain ⟨sk, hske⟩ : ∃ sk, sk = s.ss.getD k 0 := ⟨_, rfl⟩
        rw [← hske] at hck
        obtain ⟨q, hq⟩ := Int.eq_ofNat_of_zero_le (Int.emod_nonneg sk (by decide : (150 : Int) ≠ 0))
        have hq2 := Int.emod_lt_of_pos sk (by decide : (0 : Int) < 150)
        have HQ := hide hq
        have hwb : -9223372036854775808 ≤ IntKind.i64.wrap (s.num + (k : Int)) ∧ IntKind.i64.wrap (s.num + (k : Int)) ≤ 9223372036854775807 := by rw [IntKind.wrap_i64]; omega
        obtain ⟨wn, hwn⟩ : ∃ wn, wn = IntKind.i64.wrap (s.num + (k : Int)) := ⟨_, rfl⟩
        rw [← hwn] at hwb
        have HT : Hid (textsTo s.num s.ss (k + 1) = textsTo s.num s.ss k ++ [rawBytes q wn]) := by
          show textsTo s.num s.ss (k + 1) = _
          rw [show textsTo s.num s.ss (k + 1) = textsTo s.num s.ss k ++ [textAt s.num s.ss k] from rfl]
          unfold textAt
          rw [← hske, hq, ← hwn, Int.toNat_natCast]
        have hwn' := hwn.symm
        have HTL := hide (textsTo_length s.num s.ss k)
        have hrl := rawBytes_length q wn
        rw [hq] at hq2
        clear hsz0 hsz1 hkl hcs hgd hske hwn hq
        generalize textsTo s.num s.ss k = ts at *
        obtain ⟨vs, hvs, hev⟩ := (unhide HU).own
        have HVS := hide hvs
        have HEV := hide hev
        clear hvs hev
        obtain ⟨i1, hi1, hz10, hz11, hz12⟩ := info_parts Try.info32
        have HI1 := hide (And.intro hi1 (And.intro hz10 (And.intro hz11 hz12)))
        clear hi1 hz10 hz11 hz12
        refine wp_region_held_drew (S := (fun w' => w'.cell? ⟨w.heap.size, 1, none⟩ = some (.int .i64 s.num) ∧ w'.cell? ⟨w.heap.size, 2, none⟩ = some (.slice (some ⟨bb, off, none⟩) m sc) ∧ w'.cell? ⟨bb, off + k, none⟩ = some (.int .i64 sk))) (by kernel_rfl) (⟨c1, c2, hck⟩) (fun hHeld => ?_)
        refine wpAnyH_take (i := 0) (v := ?v46) rfl (by kernel_rfl) (by kernel_rfl) (by kernel_rfl) (fun _ _ _ h => h) (Or.inl ⟨by rfl, ?hy46⟩) (by assumption) ?rest46
        case hy46 =>
          intro w hSw
          go_simp
          try with_reducible rfl
        try simp only [Act.put, List.setIfInBounds_toArray, List.set_cons_zero, List.set_cons_succ, List.getElem_toArray, List.getElem_cons_succ, List.getElem_cons_zero]
        refine wpAnyH_take (i := 1) (v := ?v47) rfl (by kernel_rfl) (by kernel_rfl) (by kernel_rfl) (fun _ _ _ h => h) (Or.inl ⟨by rfl, ?hy47⟩) (by assumption) ?rest47
        case hy47 =>
          intro w hSw
          go_simp
          try with_reducible rfl
        try simp only [Act.put, List.setIfInBounds_toArray, List.set_cons_zero, List.set_cons_succ, List.getElem_toArray, List.getElem_cons_succ, List.getElem_cons_zero]
        refine wpAnyH_take (i := 2) (v := ?v48) rfl (by kernel_rfl) (by kernel_rfl) (by kernel_rfl) (fun _ _ _ h => h) (Or.inl ⟨by rfl, ?hy48⟩) (by assumption) ?rest48
        case hy48 =>
          intro w hSw
          (obtain ⟨q0, q1, q2⟩ := hSw; go_simp; try with_reducible rfl)
        try simp only [Act.put, List.setIfInBounds_toArray, List.set_cons_zero, List.set_cons_succ, List.getElem_toArray, List.getElem_cons_succ, List.getElem_cons_zero]
        refine wpAnyH_take (i := 3) (v := ?v49) rfl (by kernel_rfl) (by kernel_rfl) (by kernel_rfl) (fun _ _ _ h => h) (Or.inl ⟨by rfl, ?hy49⟩) (by assumption) ?rest49
        case hy49 =>
          intro w hSw
          go_simp
          try with_reducible rfl
        try simp only [Act.put, List.setIfInBounds_toArray, List.set_cons_zero, List.set_cons_succ, List.getElem_toArray, List.getElem_cons_succ, List.getElem_cons_zero]
        refine wpAnyH_take (i := 4) (v := ?v50) rfl (by kernel_rfl) (by kernel_rfl) (by kernel_rfl) (fun _ _ _ h => h) (Or.inl ⟨by rfl, ?hy50⟩) (by assumption) ?rest50
        case hy50 =>
          intro w hSw
          go_simp
          try with_reducible rfl
        try simp only [Act.put, List.setIfInBounds_toArray, List.set_cons_zero, List.set_cons_succ, List.getElem_toArray, List.getElem_cons_succ, List.getElem_cons_zero]
        refine wpAnyH_take (i := 5) (v := ?v51) rfl (by kernel_rfl) (by kernel_rfl) (by kernel_rfl) (fun _ _ _ h => h) (Or.inl ⟨by rfl, ?hy51⟩) (by assumption) ?rest51
        case hy51 =>
          intro w hSw
          (obtain ⟨q0, q1, q2⟩ := hSw; go_simp; try with_reducible rfl)
        try simp only [Act.put, List.setIfInBounds_toArray, List.set_cons_zero, List.set_cons_succ, List.getElem_toArray, List.getElem_cons_succ, List.getElem_cons_zero]
        refine wpAnyH_take (i := 7) (v := ?v52) rfl (by kernel_rfl) (by kernel_rfl) (by kernel_rfl) (fun _ _ _ h => h) (Or.inl ⟨by rfl, ?hy52⟩) (by assumption) ?rest52
        case hy52 =>
          intro w hSw
          go_simp
          try with_reducible rfl
        try simp only [Act.put, List.setIfInBounds_toArray, List.set_cons_zero, List.set_cons_succ, List.getElem_toArray, List.getElem_cons_succ, List.getElem_cons_zero]
        refine wpAnyH_take (i := 8) (v := ?v53) rfl (by kernel_rfl) (by kernel_rfl) (by kernel_rfl) (fun _ _ _ h => h) (Or.inl ⟨by rfl, ?hy53⟩) (by assumption) ?rest53
        case hy53 =>
          intro w hSw
          (obtain ⟨q0, q1, q2⟩ := hSw; go_simp; try with_reducible rfl)
        try simp only [Act.put, List.setIfInBounds_toArray, List.set_cons_zero, List.set_cons_succ, List.getElem_toArray, List.getElem_cons_succ, List.getElem_cons_zero]
        refine wpAnyH_take (i := 9) (v := ?v54) rfl (by kernel_rfl) (by kernel_rfl) (by kernel_rfl) (fun _ _ _ h => h) (Or.inl ⟨by rfl, ?hy54⟩) (by assumption) ?rest54
        case hy54 =>
          intro w hSw
          go_simp
          try with_reducible rfl
        try simp only [Act.put, List.setIfInBounds_toArray, List.set_cons_zero, List.set_cons_succ, List.getElem_toArray, List.getElem_cons_succ, List.getElem_cons_zero]
        refine wpAnyH_take (i := 10) (v := ?v55) rfl (by kernel_rfl) (by kernel_rfl) (by kernel_rfl) (fun _ _ _ h => h) (Or.inl ⟨by rfl, ?hy55⟩) (by assumption) ?rest55
        case hy55 =>
          intro w hSw
          go_simp
          try with_reducible rfl
        try simp only [Act.put, List.setIfInBounds_toArray, List.set_cons_zero, List.set_cons_succ, List.getElem_toArray, List.getElem_cons_succ, List.getElem_cons_zero]
        refine wpAnyH_ready (rs := [6]) (by kernel_rfl) (by simp) ?_
        refine AllReadyH.cons rfl (fun K hK => ?_) AllReadyH.nil
        go_simp
        go_wp2_with fail; refine (pick_any sk 150 _ (by decide) (by decide)).mono ?_; rintro e w2 ⟨rfl, hw2⟩; subst hw2; rw [unhide HQ]
        refine hK.out _ _ (⟨c1, c2, hck⟩) (fun hHeld => ?_)
        clear hK K
        try simp only [Act.put, List.setIfInBounds_toArray, List.set_cons_zero, List.set_cons_succ, List.getElem_toArray, List.getElem_cons_succ, List.getElem_cons_zero]
        refine wpAnyH_ready (rs := [11]) (by kernel_rfl) (by simp) ?_
        refine AllReadyH.cons rfl (fun K hK => ?_) AllReadyH.nil
        go_simp
        go_wp2_with fail; refine (handBytes_any q wn wr.drew (by omega) hwb.1 hwb.2).mono ?_; rintro e w3 ⟨y3, rfl, hy3⟩; have o3 : Only (fun _ => False) wr w3 := ((Only.refl _ _).drew).trans hy3.only (fun _ _ e => e); have c1' := o3.cell c1 (fun h => h); have c2' := o3.cell c2 (fun h => h); have hck' := o3.cell hck (fun h => h); obtain ⟨yo, yc, hysh, _⟩ := (Has.ofOwns hy3.own).shape; have hyf : ∀ j, blk y3 = some j → wr.heap.size ≤ j := fun j hj => (hy3.own.lt j (own_blk hy3.own j hj)).1; subst hysh; have HY3 := hide (Has.ofOwns hy3.own); have HYF := hide hyf; have HO3 := hide o3; clear hy3 o3 hyf
        refine hK.out _ _ (⟨c1', c2', hck'⟩) (fun hHeld => ?_)
        clear hK K
        try simp only [Act.put, List.setIfInBounds_toArray, List.set_cons_zero, List.set_cons_succ, List.getElem_toArray, List.getElem_cons_succ, List.getElem_cons_zero]
        have HU3 := hide ((unhide HU).same (unhide HO3))
        have HEV3 := hide ((unhide HEV).only (unhide HO3) (fun _ _ _ h => h))
        have HVS3 := hide ((unhide HO3).owns (unhide HVS) (fun _ _ h => h))
        have h13 := (unhide HO).size
        have h33 := (unhide HO3).size
        obtain ⟨yl, hyl⟩ : ∃ yl, yl = (rawBytes q wn).length := ⟨_, rfl⟩
        rw [← hyl] at HY3 HYF ⊢
        have hoA := fun (o : Obj) => (Only.refl (fun _ => False) w3).alloc o
        have HOA := hide hoA
        clear hyl hrl hoA
        refine wpAnyH_ready (rs := [12]) (by kernel_rfl) (by simp) ?_
        refine AllReadyH.cons rfl (fun K hK => ?_) AllReadyH.nil
        go_simp
        refine hK.out _ _ (⟨(unhide HOA _).cell c1' (fun h => h), (unhide HOA _).cell c2' (fun h => h), (unhide HOA _).cell hck' (fun h => h)⟩) (fun hHeld => ?_)
        clear hK K
        try simp only [Act.put, List.setIfInBounds_toArray, List.set_cons_zero, List.set_cons_succ, List.getElem_toArray, List.getElem_cons_succ, List.getElem_cons_zero]
        refine wpAnyH_ready (rs := [13]) (by kernel_rfl) (by simp) ?_
        refine AllReadyH.cons rfl (fun K hK => ?_) AllReadyH.nil
        refine step_append_hasV rfl (.tmp 16) (.tmp 28) 23 rfl w1.heap.size 32 i1 (.slice none 0 0) 24 Try.underlying23 (unhide HI1).1 (unhide HI1).2.1 (unhide HI1).2.2.1 (unhide HI1).2.2.2 rfl u3 ts.length vs rfl ((unhide HVS3).alloc _) _ [.slice yo yl yc] rfl (hasV_lit (heap_alloc_new _ _) (by simp [maxLen])) (by simp [Value.oneCell']) (by rw [unhide HTL]; simp [maxLen]; omega) (by rw [unhide HTL]; simp; omega) (by simp; omega) ?_; intro ao6 cap6 w6 own6 gr6 at6; have hP := OwnsU.pushes (xs := [rawBytes q wn]) (unhide HVS3) (unhide HEV3) (ys := [.slice yo yl yc]) ⟨unhide HY3, fun _ j hj => ⟨by have := unhide HYF j hj; omega, fun e => by have := unhide HYF j hj; have := ((unhide HVS).lt j e).2; omega⟩, trivial⟩ (unhide HOA _) own6 gr6 at6; have hne1 : ¬ u3.ownBlock = some w.heap.size := fun e => (by have := ((unhide HVS).lt _ e).1; omega); have hne2 : ¬ u3.ownBlock = some bb := fun e => (by have := ((unhide HVS).lt _ e).1; omega); have c1'' := hP.2.cell c1' hne1; have c2'' := hP.2.cell c2' hne1; have hck'' := hP.2.cell hck' hne2; have HP := hide hP; clear hP own6 gr6 at6
        refine hK.out _ _ (⟨c1'', c2'', hck''⟩) (fun hHeld => ?_)
        clear hK K
        try simp only [Act.put, List.setIfInBounds_toArray, List.set_cons_zero, List.set_cons_succ, List.getElem_toArray, List.getElem_cons_succ, List.getElem_cons_zero]
        refine wpAnyH_take (i := 14) (v := ?v56) rfl (by kernel_rfl) (by kernel_rfl) (by kernel_rfl) (fun _ _ _ h => h) (Or.inl ⟨by rfl, ?hy56⟩) (by assumption) ?rest56
        case hy56 =>
          intro w hSw
          go_simp
          try with_reducible rfl
        try simp only [Act.put, List.setIfInBounds_toArray, List.set_cons_zero, List.set_cons_succ, List.getElem_toArray, List.getElem_cons_succ, List.getElem_cons_zero]
        refine wpAnyH_done (by kernel_rfl) ?_ _
        have HO6 := hide (((unhide HO).trans (unhide HO3) (fun _ _ e => e)).trans (unhide HP).2 (fun i hi e => by have := ((unhide HVS).lt i e).1; omega))
        have HU6 := (unhide HP).1
        rw [← unhide HT] at HU6
        have HU6' := hide HU6
        clear HU6
        go_wp2
        go_roundw
        case rel => exact ⟨k + 1, by omega, by omega, by go_num, unhide HU6', unhide HO6⟩
        case measure => simp [intOf]; omega
      · obtain rfl : k = 4 := by omega
        have hli : (4 : Int) < m := by omega
        go_wp2
        go_ret
        exact ⟨u3, rfl, unhide HEND _ (unhide HU) (by simp), (unhide HO1).trans (unhide HO) (fun _ _ e => e)⟩
    · obtain rfl : m = k := by omega
      have hli : ¬ (m : Int) < m := by omega
      go_wp2
      go_ret
      exact ⟨u3, rfl, unhide HEND _ (unhide HU) (by simp), (unhide HO1).trans (unhide HO) (fun _ _ e => e)⟩

end Wal
end Go.Proofs.Ytoffcbopolonoaa

namespace Go.Proofs.Ytoffcbopolonoaa
open Go.RowKit
set_option linter.unusedSimpArgs false
set_option linter.unusedVariables false
namespace Wal

theorem take_eq_succ (us vs : List (List UInt8)) (k : Nat) (hu : k < us.length) (hv : k < vs.length) (h : us.take k = vs.take k) (e : us[k] = vs[k]) : us.take (k + 1) = vs.take (k + 1) := by
  rw [List.take_succ_eq_append_getElem hu, List.take_succ_eq_append_getElem hv, h, e]

set_option maxHeartbeats 2000000 in
set_option maxRecDepth 100000 in
theorem units_any {P Q : Nat → Prop} (av bv' : Value) (us vs : List (List UInt8)) (w : World) (ha : HasU P w av us) (hb : HasU Q w bv' vs) : Calls Try.prog 24 #[av, bv'] w fun e w' => e = .returned (.bool (decide (us = vs))) ∧ Only (fun _ => False) w w' := by
  obtain ⟨ao, ac, rfl, hal, ham⟩ := ha.shape
  obtain ⟨bo, bc, rfl, hbl, hbm⟩ := hb.shape
  have HA := hide ha
  have HB := hide hb
  clear ha hb
  by_cases hlen : us.length = vs.length
  · obtain ⟨n, hn⟩ : ∃ n, n = us.length := ⟨_, rfl⟩
    have hn2 : n = vs.length := by rw [hn, hlen]
    rw [← hn] at HA hal ⊢
    rw [← hn2] at HB hbl ⊢
    have HN := hide hn
    have HN2 := hide hn2
    have hmx : (n : Int) < 9223372036854775808 := by unfold maxLen at ham; omega
    clear hlen hn hn2
    go_enter Try.func24, Try.ntmps24
    go_wp2_with fail
    go_loopw [5] (fun i wr => ∃ k : Nat, k ≤ n ∧ i = .int .i64 k ∧ Hid (us.take k = vs.take k) ∧ Only (fun _ => False) w wr) (fun i _ => n - (intOf i).toNat)
    case atStart => exact ⟨0, Nat.zero_le _, rfl, rfl, Only.refl _ _⟩
    case round =>
      obtain ⟨k, hk, rfl, HT, ho⟩ := hrel
      have HO := hide ho
      clear ho
      by_cases hlt : k < n
      · have hku : k < us.length := by have := unhide HN; omega
        have hkv : k < vs.length := by have := unhide HN2; omega
        have hli : (k : Int) < n := by omega
        obtain ⟨ab, aoff, x, hao, hcx, hxh, hxp⟩ := ((unhide HA).only (unhide HO) (fun _ _ _ h => h)).at k hku
        obtain ⟨bb, boff, y, hbo, hcy, hyh, hyp⟩ := ((unhide HB).only (unhide HO) (fun _ _ _ h => h)).at k hkv
        subst hao
        subst hbo
        have HS := hide (take_eq_succ us vs k hku hkv (unhide HT))
        have HNE : Hid (us[k] ≠ vs[k] → us ≠ vs) := fun h e => h (by subst e; rfl)
        have HDX := hide (str_conv (hxh.only ((Only.refl (fun _ => False) wr).drew) (fun _ _ _ h => h)))
        have HDY := hide (str_conv (hyh.only ((Only.refl (fun _ => False) wr).drew) (fun _ _ _ h => h)))
        have HSB := hide (str_beq us[k] vs[k])
        clear hxh hyh hxp hyp
        generalize us[k] = u at *
        generalize vs[k] = v at *
        go_wp2_with fail
        refine wp_region_held_drew (S := (fun w' => w'.cell? ⟨ab, aoff + k, none⟩ = some x ∧ w'.cell? ⟨bb, boff + k, none⟩ = some y ∧ (convert 32 9 x).run Try.prog w' = .ok (.string (str u)) w' ∧ (convert 32 9 y).run Try.prog w' = .ok (.string (str v)) w')) (by kernel_rfl) (⟨hcx, hcy, unhide HDX, unhide HDY⟩) (fun hHeld => ?_)
        refine wpAnyH_take (i := 0) (v := ?v57) rfl (by kernel_rfl) (by kernel_rfl) (by kernel_rfl) (fun _ _ _ h => h) (Or.inl ⟨by rfl, ?hy57⟩) (by assumption) ?rest57
        case hy57 =>
          intro w hSw
          go_simp
          try with_reducible rfl
        try simp only [Act.put, List.setIfInBounds_toArray, List.set_cons_zero, List.set_cons_succ, List.getElem_toArray, List.getElem_cons_succ, List.getElem_cons_zero]
        refine wpAnyH_take (i := 1) (v := ?v58) rfl (by kernel_rfl) (by kernel_rfl) (by kernel_rfl) (fun _ _ _ h => h) (Or.inl ⟨by rfl, ?hy58⟩) (by assumption) ?rest58
        case hy58 =>
          intro w hSw
          go_simp
          try with_reducible rfl
        try simp only [Act.put, List.setIfInBounds_toArray, List.set_cons_zero, List.set_cons_succ, List.getElem_toArray, List.getElem_cons_succ, List.getElem_cons_zero]
        refine wpAnyH_take (i := 2) (v := ?v59) rfl (by kernel_rfl) (by kernel_rfl) (by kernel_rfl) (fun _ _ _ h => h) (Or.inl ⟨by rfl, ?hy59⟩) (by assumption) ?rest59
        case hy59 =>
          intro w hSw
          go_simp
          try with_reducible rfl
        try simp only [Act.put, List.setIfInBounds_toArray, List.set_cons_zero, List.set_cons_succ, List.getElem_toArray, List.getElem_cons_succ, List.getElem_cons_zero]
        refine wpAnyH_take (i := 3) (v := ?v60) rfl (by kernel_rfl) (by kernel_rfl) (by kernel_rfl) (fun _ _ _ h => h) (Or.inl ⟨by rfl, ?hy60⟩) (by assumption) ?rest60
        case hy60 =>
          intro w hSw
          (obtain ⟨q0, q1, q2, q3⟩ := hSw; go_simp; try with_reducible rfl)
        try simp only [Act.put, List.setIfInBounds_toArray, List.set_cons_zero, List.set_cons_succ, List.getElem_toArray, List.getElem_cons_succ, List.getElem_cons_zero]
        refine wpAnyH_take (i := 4) (v := ?v61) rfl (by kernel_rfl) (by kernel_rfl) (by kernel_rfl) (fun _ _ _ h => h) (Or.inl ⟨by rfl, ?hy61⟩) (by assumption) ?rest61
        case hy61 =>
          intro w hSw
          (obtain ⟨q0, q1, q2, q3⟩ := hSw; go_simp; try with_reducible rfl)
        try simp only [Act.put, List.setIfInBounds_toArray, List.set_cons_zero, List.set_cons_succ, List.getElem_toArray, List.getElem_cons_succ, List.getElem_cons_zero]
        refine wpAnyH_take (i := 5) (v := ?v62) rfl (by kernel_rfl) (by kernel_rfl) (by kernel_rfl) (fun _ _ _ h => h) (Or.inl ⟨by rfl, ?hy62⟩) (by assumption) ?rest62
        case hy62 =>
          intro w hSw
          go_simp
          try with_reducible rfl
        try simp only [Act.put, List.setIfInBounds_toArray, List.set_cons_zero, List.set_cons_succ, List.getElem_toArray, List.getElem_cons_succ, List.getElem_cons_zero]
        refine wpAnyH_take (i := 6) (v := ?v63) rfl (by kernel_rfl) (by kernel_rfl) (by kernel_rfl) (fun _ _ _ h => h) (Or.inl ⟨by rfl, ?hy63⟩) (by assumption) ?rest63
        case hy63 =>
          intro w hSw
          go_simp
          try with_reducible rfl
        try simp only [Act.put, List.setIfInBounds_toArray, List.set_cons_zero, List.set_cons_succ, List.getElem_toArray, List.getElem_cons_succ, List.getElem_cons_zero]
        refine wpAnyH_take (i := 7) (v := ?v64) rfl (by kernel_rfl) (by kernel_rfl) (by kernel_rfl) (fun _ _ _ h => h) (Or.inl ⟨by rfl, ?hy64⟩) (by assumption) ?rest64
        case hy64 =>
          intro w hSw
          go_simp
          try with_reducible rfl
        try simp only [Act.put, List.setIfInBounds_toArray, List.set_cons_zero, List.set_cons_succ, List.getElem_toArray, List.getElem_cons_succ, List.getElem_cons_zero]
        refine wpAnyH_take (i := 8) (v := ?v65) rfl (by kernel_rfl) (by kernel_rfl) (by kernel_rfl) (fun _ _ _ h => h) (Or.inl ⟨by rfl, ?hy65⟩) (by assumption) ?rest65
        case hy65 =>
          intro w hSw
          (obtain ⟨q0, q1, q2, q3⟩ := hSw; go_simp; try with_reducible rfl)
        try simp only [Act.put, List.setIfInBounds_toArray, List.set_cons_zero, List.set_cons_succ, List.getElem_toArray, List.getElem_cons_succ, List.getElem_cons_zero]
        refine wpAnyH_take (i := 9) (v := ?v66) rfl (by kernel_rfl) (by kernel_rfl) (by kernel_rfl) (fun _ _ _ h => h) (Or.inl ⟨by rfl, ?hy66⟩) (by assumption) ?rest66
        case hy66 =>
          intro w hSw
          (obtain ⟨q0, q1, q2, q3⟩ := hSw; go_simp; try with_reducible rfl)
        try simp only [Act.put, List.setIfInBounds_toArray, List.set_cons_zero, List.set_cons_succ, List.getElem_toArray, List.getElem_cons_succ, List.getElem_cons_zero]
        refine wpAnyH_take (i := 10) (v := ?v67) rfl (by kernel_rfl) (by kernel_rfl) (by kernel_rfl) (fun _ _ _ h => h) (Or.inl ⟨by rfl, ?hy67⟩) (by assumption) ?rest67
        case hy67 =>
          intro w hSw
          go_simp
          try with_reducible rfl
        try simp only [Act.put, List.setIfInBounds_toArray, List.set_cons_zero, List.set_cons_succ, List.getElem_toArray, List.getElem_cons_succ, List.getElem_cons_zero]
        refine wpAnyH_done (by kernel_rfl) ?_ _
        clear hHeld
        have HO6 := hide ((unhide HO).drew)
        rw [unhide HSB]
        by_cases heq : u = v
        · rw [decide_eq_true heq, Bool.not_true]
          have HS' := hide (unhide HS heq)
          clear heq
          go_wp2
          go_roundw
          case rel => exact ⟨k + 1, by omega, by go_num, HS', unhide HO6⟩
          case measure => simp [intOf]; omega
        · rw [decide_eq_false heq, Bool.not_false]
          have HE := hide (unhide HNE heq)
          clear heq
          go_wp2
          go_ret
          rw [decide_eq_false (unhide HE)]
          exact ⟨rfl, unhide HO6⟩
      · obtain rfl : n = k := by omega
        have hli : ¬ (n : Int) < n := by omega
        have HE : Hid (us = vs) := by
          have := unhide HT
          rw [List.take_of_length_le (by have := unhide HN; omega), List.take_of_length_le (by have := unhide HN2; omega)] at this
          exact this
        go_wp2
        go_ret
        rw [decide_eq_true (unhide HE)]
        exact ⟨rfl, unhide HO⟩
  · have hli : ¬ (us.length : Int) = vs.length := by omega
    have HE : Hid (¬ us = vs) := fun e => hlen (by rw [e])
    clear hlen
    go_enter Try.func24, Try.ntmps24
    go_wp2
    go_ret
    rw [decide_eq_false (unhide HE)]
    exact ⟨rfl, Only.refl _ _⟩

end Wal
end Go.Proofs.Ytoffcbopolonoaa
