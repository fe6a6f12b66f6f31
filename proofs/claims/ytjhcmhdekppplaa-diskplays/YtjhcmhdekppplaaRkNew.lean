/-
  The reference's NewDisk.
-/
import Derived.Test.YtjhcmhdekppplaaRkWrite
namespace Go.Proofs.Ytjhcmhdekppplaa
open Go.RowKit
set_option linter.unusedSimpArgs false
set_option linter.unusedVariables false

theorem Try.infoBool : (Try.prog.info? 4).map (fun i => (i.zero, i.size, i.bytes)) = some (some (.bool false), 1, 1) := by kernel_rfl
theorem Try.infoBytes : (Try.prog.info? 28).map (fun i => (i.zero, i.size, i.bytes)) = some (some (.slice none 0 0), 1, 24) := by kernel_rfl

/-- make([]byte, ..), kept whole -/
def mkRow (x y : Value) : Sem Value := Instr.makeSlice 28 x y
theorem execOp_mkRow (ρ : Operand → Value) (dst : Option Tmp) (x y : Operand) (ty : TypeId) (pos : String) (af : Array Edge) (gd : Option (Nat × Bool)) :
    execOp ρ { dst := dst, op := .makeSlice 28 x y, type := ty, pos := pos, after := af, guard := gd } = (do pure (.value (← mkRow (ρ x) (ρ y)))) := rfl

theorem grownBy_drew {w w' : World} {r : Option Nat} (h : w.drew.grownBy w' r) : w.grownBy w' r := ⟨h.os, h.tape, h.output, h.size, h.block⟩

structure RNew (w wr : World) (B G n k : Nat) (sv : Value) (svs : List Value) : Prop where
  blk : wr.heap[B]? = some (.cells #[sv, .slice (some ⟨G, 0, none⟩) n n, .slice none 0 0, .int .i64 (-1), .bool false, .int .i64 0] 49 (0, 0))
  srow : wr.ownsRow w.heap.size 28 1 sv k svs
  brow : wr.ownsRow w.heap.size 4 1 (.slice (some ⟨G, 0, none⟩) n n) n (List.replicate n (.bool false))
  dat : ∀ v ∈ svs, Has wr v zero64 ∧ ∀ j, _root_.Go.Proofs.Ytjhcmhdekppplaa.blk v = some j → w.heap.size ≤ j ∧ j < wr.heap.size ∧ j ≠ B ∧ j ≠ G ∧ sv.ownBlock ≠ some j
  sb : sv.ownBlock ≠ some B
  sg : sv.ownBlock ≠ some G
  gb : G ≠ B
  up : w.heap.size ≤ B
  ug : w.heap.size ≤ G
  only : Only (fun _ => False) w wr

theorem RNew.push {w wr w4 : World} {B G n k : Nat} {sv : Value} {svs : List Value} {g4 cap4 H : Nat} (h : RNew w wr B G n k sv svs)
    (own : w4.ownsRow w.heap.size 28 1 (.slice (some ⟨g4, 0, none⟩) (k + 1) cap4) (k + 1) (svs ++ [.slice (some ⟨H, 0, none⟩) 64 64]))
    (ho : Only (fun j => sv.ownBlock = some j) wr w4) (hat : sv.ownBlock = some g4 ∨ (wr.heap.size ≤ g4 ∧ g4 ≠ H)) (hH : wr.heap.size ≤ H) (hH4 : H < w4.heap.size) (hz : Has w4 (.slice (some ⟨H, 0, none⟩) 64 64) zero64) :
    RNew w (w4.setCell ⟨B, 0, none⟩ (.slice (some ⟨g4, 0, none⟩) (k + 1) cap4)) B G n (k + 1) (.slice (some ⟨g4, 0, none⟩) (k + 1) cap4) (svs ++ [.slice (some ⟨H, 0, none⟩) 64 64]) := by
  have hbl := lt_of_block h.blk
  have hgl := (h.brow.lt G rfl).2
  have hlt : ∀ j, sv.ownBlock = some j → j < wr.heap.size := fun j hj => (h.srow.lt j hj).2
  have hgB : g4 ≠ B := by
    rcases hat with e | e
    · intro e2; subst e2; exact h.sb e
    · omega
  have hgG : g4 ≠ G := by
    rcases hat with e | e
    · intro e2; subst e2; exact h.sg e
    · omega
  have hset := (Only.refl (fun j => j = B) w4).here 0 (.slice (some ⟨g4, 0, none⟩) (k + 1) cap4)
  have hse : (w4.setCell ⟨B, 0, none⟩ (.slice (some ⟨g4, 0, none⟩) (k + 1) cap4)).heap.size = w4.heap.size := by simp [World.setCell]
  have hws := h.only.size
  refine ⟨?_, ?_, ?_, ?_, ?_, ?_, h.gb, h.up, h.ug, ?_⟩
  · rw [six_setCell (ho.heap h.blk h.sb)]
    rfl
  · exact hset.owns own (fun j hj e => by simp only [Value.ownBlock, Option.some.injEq] at hj; omega)
  · exact hset.owns (ho.owns h.brow (fun j hj e => by simp only [Value.ownBlock, Option.some.injEq] at hj; subst hj; exact h.sg e)) (fun j hj e => by simp only [Value.ownBlock, Option.some.injEq] at hj; subst hj; exact h.gb e)
  · intro v hv
    rcases List.mem_append.1 hv with hv | hv
    · obtain ⟨h1, h2⟩ := h.dat v hv
      have h3 := h1.only ho (fun _ j hj => (h2 j hj).2.2.2.2)
      refine ⟨h3.only hset (fun _ j hj e => (h2 j hj).2.2.1 e), fun j hj => ?_⟩
      obtain ⟨m1, m2, m3, m4, m5⟩ := h2 j hj
      refine ⟨m1, by rw [hse]; exact Nat.lt_of_lt_of_le m2 ho.size, m3, m4, ?_⟩
      simp only [Value.ownBlock, ne_eq, Option.some.injEq]
      rcases hat with e | e
      · intro e2; subst e2; exact m5 e
      · omega
    · simp only [List.mem_singleton] at hv
      subst hv
      refine ⟨hz.only hset (fun _ j hj e => by cases hj; have e2 : H = B := e; omega), fun j hj => ?_⟩
      have hj' : H = j := by cases hj; rfl
      subst hj'
      refine ⟨by omega, by rw [hse]; exact hH4, by omega, by omega, ?_⟩
      simp only [Value.ownBlock, ne_eq, Option.some.injEq]
      rcases hat with e | e
      · have := hlt g4 e; omega
      · exact e.2
  · simp only [Value.ownBlock, ne_eq, Option.some.injEq]; exact hgB
  · simp only [Value.ownBlock, ne_eq, Option.some.injEq]; exact hgG
  · exact (h.only.trans ho (fun j hj e => by have := (h.srow.lt j e).1; omega)).trans hset (fun j hj e => by have := h.up; omega)

theorem RNew.done {w wr : World} {B G n : Nat} {sv : Value} {svs : List Value} (h : RNew w wr B G n n sv svs) (hn : 0 < n) : ∃ sg sc, RLie wr (fun j => w.heap.size ≤ j ∧ j < wr.heap.size) B sg sc G n (.slice none 0 0) (Dk.new n) svs [] := by
  obtain ⟨so, sc, hsv⟩ := ownsRow_shape h.srow
  obtain ⟨sg, rfl⟩ := row_form (n := n) (by rw [← hsv]; exact ownsRow_base h.srow (Nat.zero_le _)) hn
  subst hsv
  have hln : (Dk.new n).secs.length = n := by simp [Dk.new]
  have hss := h.srow.lt sg rfl
  have hbb := h.brow.lt G rfl
  refine ⟨sg, sc, ⟨?_, ?_, ?_, World.ownsRow_nil _ _ _ _, rfl, ?_, h.gb, ?_, by simp [Value.ownBlock], by simp [Value.ownBlock], by simp [Value.ownBlock], ⟨h.up, lt_of_block h.blk⟩, hss, hbb, fun k hk => (by cases hk), ?_, fun k p hp => ?_⟩⟩
  · rw [hln]; exact h.blk
  · rw [hln]; exact ownsRow_base h.srow (Nat.zero_le _)
  · rw [hln]
    have e : (Dk.new n).secs.map (fun s => Value.bool s.isNone) = List.replicate n (.bool false) := by simp [Dk.new]
    rw [e]
    exact ownsRow_base h.brow (Nat.zero_le _)
  · have := h.sb; simp only [Value.ownBlock, ne_eq, Option.some.injEq] at this; exact this
  · have := h.sg; simp only [Value.ownBlock, ne_eq, Option.some.injEq] at this; exact this
  · intro k v hv
    obtain ⟨h1, h2⟩ := h.dat v (List.mem_of_getElem? hv)
    refine ⟨fun bs e => ?_, h1.one, fun j hj => ?_⟩
    · have hk : k < n := by have := (List.getElem?_eq_some_iff.1 hv).1; have := h.srow.1; omega
      have hz : (Dk.new n).secs.getD k none = some zero64 := by
        show (List.replicate n (some zero64)).getD k none = some zero64
        rw [List.getD_eq_getElem?_getD, List.getElem?_replicate, if_pos hk]
        rfl
      rw [hz] at e
      cases e
      exact h1
    · obtain ⟨m1, m2, m3, m4, m5⟩ := h2 j hj
      simp only [Value.ownBlock, ne_eq, Option.some.injEq] at m5
      exact ⟨m3, fun e => m5 e.symm, m4, by simp [Value.ownBlock], m2, m1, m2⟩
  · cases k <;> cases hp

/-- a new disk of the reference -/
structure RMade (w w' : World) (B n : Nat) : Prop where
  ex : ∃ G sg sc svs, RLie w' (fun j => w.heap.size ≤ j ∧ j < w'.heap.size) B sg sc G n (.slice none 0 0) (Dk.new n) svs []
  only : Only (fun _ => False) w w'

section
attribute [local go_sem ↓] execOp_mkRow

set_option maxRecDepth 100000 in
set_option maxHeartbeats 2000000 in
theorem rkNew_any (n : Nat) (h1 : 8 ≤ n) (h2 : n ≤ 4096) (w : World) : Calls Try.prog 19 #[.int .i64 n] w fun e w' => ∃ B, e = .returned (.pointer (some ⟨B, 0, none⟩)) ∧ RMade w w' B n := by
  obtain ⟨i0, hi, hz0, hz1, hz2⟩ := info_parts Try.infoBool
  obtain ⟨i1, hj, hy0, hy1, hy2⟩ := info_parts Try.infoBytes
  have hmk : ∃ Z : Array Value, Z = (zero64.map bv).toArray ∧ ∀ w', (mkRow (.int .i64 64) (.int .i64 64)).run Try.prog w' = .ok (.slice (some ⟨w'.heap.size, 0, none⟩) 64 64) (w'.alloc (.cells Z 5)) := by
    obtain ⟨i2, hk, hx0, hx1, hx2⟩ := info_parts Try.info5
    refine ⟨madeCells #[.int .u8 0] 64, ?_, fun w' => ?_⟩
    · apply Array.ext'
      rw [toList_madeCells_one]
      simp [bv, zero64]
    have h := run_make (P := Try.prog) w' 28 5 i2 (.int .u8 0) Try.underlying28 hk hx0 .i64 .i64 64 64 (by omega) (by omega) (by rw [hx2]; omega) (by omega)
    simp only [hx1, Nat.mul_one] at h
    exact h
  obtain ⟨Z, hZ, hmk⟩ := hmk
  have HZ := hide hZ
  clear hZ
  go_enter Try.func19, Try.ntmps19
  go_wp2_with (at_make; refine wpList_make_full _ rfl (.tmp 5) (.tmp 5) 47 rfl w.heap.size 4 i0 (.bool false) 1 Try.underlying47 hi hz0 hz1 .i64 .i64 n n n rfl rfl rfl rfl (by rw [hz2]; omega) (by unfold maxLen; omega) (Nat.le_refl _) ?_; intro w1 own1 gr1; have ho1 : Only (fun _ => False) w w1 := (Only.refl _ _).grown gr1 (fun k h => by cases h))
  have hlt1 := (own1.lt w.heap.size rfl).2
  have hbz : (madeCells (Value.bool false).cells (n * 1)).toList = List.replicate n (.bool false) := by
    rw [Nat.mul_one]
    show (madeCells #[Value.bool false] n).toList = _
    rw [toList_madeCells_one]
  rw [hbz] at own1
  have hN0 : RNew w (w1.alloc (.cells #[.slice none 0 0, .slice (some ⟨w.heap.size, 0, none⟩) n n, .slice none 0 0, .int .i64 (-1), .bool false, .int .i64 0] 49)) w1.heap.size w.heap.size n 0 (.slice none 0 0) [] :=
    ⟨heap_alloc_new w1 _, World.ownsRow_nil _ _ _ _, own1.alloc _, fun v hv => (by cases hv), by simp [Value.ownBlock], by simp [Value.ownBlock], by omega, ho1.size, Nat.le_refl _, ho1.alloc _⟩
  have HN0 := hide hN0
  generalize w1.heap.size = B at *
  clear hN0 own1 gr1 ho1 hbz
  go_loopw [4] (fun i wr => ∃ (k : Nat) (sv : Value) (svs : List Value), k ≤ n ∧ i = .int .i64 k ∧ RNew w wr B w.heap.size n k sv svs) (fun i _ => n - (intOf i).toNat)
  case atStart => exact ⟨0, _, _, Nat.zero_le _, rfl, unhide HN0⟩
  case round =>
    obtain ⟨k, sv, svs, hk, rfl, hN⟩ := hrel
    by_cases hlt : k < n
    · have hlt' : (k : Int) < (n : Int) := by omega
      obtain ⟨c0, c1, c2, c3, c4, c5, fz⟩ := cells_six hN.blk
      have hbl := lt_of_block hN.blk
      have cA : ∀ o, (wr.drew.alloc o).cell? ⟨B, 0, none⟩ = some sv := fun o => by rw [World.cell?_alloc_lt _ _ _ (show (⟨B, 0, none⟩ : Addr).block < wr.drew.heap.size from hbl)]; exact c0
      have cB : ∀ o o', ((wr.drew.alloc o).alloc o').cell? ⟨B, 0, none⟩ = some sv := fun o o' => by rw [World.cell?_alloc_lt _ _ _ (show (⟨B, 0, none⟩ : Addr).block < (wr.drew.alloc o).heap.size by simp; omega)]; exact cA o
      have HN := hide hN
      clear hN
      have hsb := (unhide HN).sb
      have hfz : ∀ o o', ((wr.alloc o).alloc o').frozen? ⟨B, 0, none⟩ = false := fun o o' => by
        rw [World.frozen?_alloc_past _ _ _ (show (⟨B, 0, none⟩ : Addr).block < (wr.alloc o).heap.size by simp; omega), World.frozen?_alloc_past _ _ _ (show (⟨B, 0, none⟩ : Addr).block < wr.heap.size from hbl)]
        exact fz 0
      have HFZ := hide hfz
      have HCB := hide cB
      clear hfz
      go_wp2_with fail
      obtain ⟨W9, hW9⟩ : ∃ W9, W9 = ((wr.alloc (.cells Z 5)).alloc (.cells #[.slice (some ⟨wr.heap.size, 0, none⟩) 64 64] 28)) := ⟨_, rfl⟩
      have hblk9 : W9.heap[wr.heap.size + 1]? = some (.cells #[.slice (some ⟨wr.heap.size, 0, none⟩) 64 64] 28 (0, 0)) := by
        rw [hW9]
        have := heap_alloc_new (wr.alloc (.cells Z 5)) (.cells #[.slice (some ⟨wr.heap.size, 0, none⟩) 64 64] 28)
        simpa using this
      have HNEWS := hide (World.news_of_block hblk9)
      have HOWN : Hid (W9.ownsRow w.heap.size 28 1 sv k svs) := by rw [hW9]; exact ((unhide HN).srow.alloc _).alloc _
      have ho9 : Only (fun _ => False) wr W9 := by rw [hW9]; exact ((Only.refl _ _).alloc _).alloc _
      have hs9 : W9.heap.size = wr.heap.size + 2 := by rw [hW9]; simp
      have hb9 : w.heap.size ≤ W9.heap.size := Nat.le_trans (unhide HN).only.size ho9.size
      have hz9 : Has W9 (.slice (some ⟨wr.heap.size, 0, none⟩) 64 64) zero64 := by
        rw [hW9]
        have h := has_row (w := wr.alloc (.cells Z 5)) (heap_alloc_new wr _) (unhide HZ) zero64_length (by unfold maxLen; omega)
        exact h.only ((Only.refl (fun _ => False) _).alloc _) (fun _ _ _ h => h)
      have c9 := ho9.cell c0 (fun h => h)
      have f9 : W9.frozen? ⟨B, 0, none⟩ = false := (cells_six (ho9.heap (unhide HN).blk (fun h => h))).2.2.2.2.2.2 0
      have HZ9 := hide hz9
      have HC9 := hide c9
      have HF9 := hide f9
      have HW9 := hide hW9
      subst hW9
      clear hz9 c9 f9 hblk9
      go_region_law (refine step_append_lies _ rfl (.tmp 18) (.tmp 20) 46 rfl w.heap.size 28 i1 (.slice none 0 0) 1 24 Try.underlying46 hj hy0 hy1 hy2 rfl (by decide) sv k svs rfl (unhide HOWN) ⟨wr.heap.size + 1, 0, none⟩ 1 1 [.slice (some ⟨wr.heap.size, 0, none⟩) 64 64] rfl rfl (unhide HNEWS) (fun u hu => by simp only [List.mem_cons, List.not_mem_nil, or_false] at hu; subst hu; rfl) (by decide) (by unfold maxLen; omega) (by omega) hb9 (wr.heap.size + 2) hs9 ?_; intro g4 cap4 w4 own4 gr4 at4 lt4; have k4 : w4.cell? ⟨B, 0, none⟩ = some sv := gr4.cell (unhide HC9) (fun e => hsb e.symm); have z4 : w4.frozen? ⟨B, 0, none⟩ = false := (gr4.frozen_far ⟨B, 0, none⟩ (show B < _ from Nat.lt_of_lt_of_le hbl ho9.size) (fun e => hsb e.symm)).trans (unhide HF9))
      all_goals
        have gr5 := grownBy_drew gr4
        have ho4 : Only (fun j => sv.ownBlock = some j) wr w4 := (ho9.mono (fun _ _ e => e.elim)).grown gr5 (fun j hj _ => hj)
        have hnb : ∀ j, sv.ownBlock = some j → j < wr.heap.size := fun j hj => ((unhide HN).srow.lt j hj).2
        have hg9 := gr5.size
        have hP := (unhide HN).push own4 ho4 (by
          rcases at4 with e | e
          · exact Or.inl e
          · exact Or.inr ⟨by omega, by omega⟩) (Nat.le_refl _) (Nat.lt_of_lt_of_le (by rw [hs9]; omega) hg9) ((unhide HZ9).only ((Only.refl (fun j => sv.ownBlock = some j) _).grown gr5 (fun j hj _ => hj)) (fun _ j hj e => by have hj2 : wr.heap.size = j := Option.some.inj hj; have := hnb j e; omega))
        have HP := hide hP
        clear hP
        go_wp2_with fail
        go_roundw
        case rel => exact ⟨k + 1, _, _, by omega, by go_num, unhide HP⟩
        case measure => simp [intOf]; omega
    · obtain rfl : k = n := by omega
      have hlt' : ¬ (k : Int) < (k : Int) := by omega
      go_wp2_with fail
      go_ret
      obtain ⟨sg, sc, hR⟩ := hN.done (by omega)
      exact ⟨B, rfl, ⟨⟨w.heap.size, sg, sc, svs, hR⟩, hN.only⟩⟩
end

end Go.Proofs.Ytjhcmhdekppplaa
