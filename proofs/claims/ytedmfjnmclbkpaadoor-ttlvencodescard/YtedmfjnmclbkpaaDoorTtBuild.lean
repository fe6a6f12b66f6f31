/-
  locksmithlaw6's tree: the walk.
-/
import Derived.Test.YtedmfjnmclbkpaaDoorTtTree
import Derived.Test.YtedmfjnmclbkpaaDoorTtZero
import Derived.Laws.IdiomStrings
import Derived.OpenShut
namespace Go.Proofs.YtedmfjnmclbkpaaDoor
open Go.RowKit
set_option linter.unusedSimpArgs false
set_option linter.unusedVariables false

namespace Tt

theorem two_5 {w : World} {b : Nat} {x y z u v : Value} {t : TypeId} (h : w.heap[b]? = some (.cells #[x, y, z, u, v] t (0, 0))) :
    w.cell? ⟨b, 0, none⟩ = some x ∧ w.cell? ⟨b, 1, none⟩ = some y ∧ w.cell? ⟨b, 2, none⟩ = some z ∧ w.cell? ⟨b, 3, none⟩ = some u ∧ w.cell? ⟨b, 4, none⟩ = some v ∧ ∀ i, w.frozen? ⟨b, i, none⟩ = false := by
  simp [World.cell?, World.frozen?, h]
theorem two_6 {w : World} {b : Nat} {x y z u v s : Value} {t : TypeId} (h : w.heap[b]? = some (.cells #[x, y, z, u, v, s] t (0, 0))) :
    w.cell? ⟨b, 0, none⟩ = some x ∧ w.cell? ⟨b, 1, none⟩ = some y ∧ w.cell? ⟨b, 2, none⟩ = some z ∧ w.cell? ⟨b, 3, none⟩ = some u ∧ w.cell? ⟨b, 4, none⟩ = some v ∧ w.cell? ⟨b, 5, none⟩ = some s := by
  simp [World.cell?, h]
theorem set_5 {w : World} {b : Nat} {x y z u v : Value} {t : TypeId} (h : w.heap[b]? = some (.cells #[x, y, z, u, v] t (0, 0))) (p q r s o : Value) :
    (((((w.setCell ⟨b, 0, none⟩ p).setCell ⟨b, 1, none⟩ q).setCell ⟨b, 2, none⟩ r).setCell ⟨b, 3, none⟩ s).setCell ⟨b, 4, none⟩ o).heap[b]? = some (.cells #[p, q, r, s, o] t (0, 0)) := by
  rw [two_setCell (two_setCell (two_setCell (two_setCell (two_setCell h))))]
  rfl

/-- '[]byte(k)' of a string -/
theorem conv_bytes (k : List UInt8) (hk : k.length ≤ maxLen) (w : World) : ∃ ao cap w', (convert 9 22 (encStr k)).run Tryd.prog w = .ok (.slice ao k.length cap) w' ∧ Has w' (.slice ao k.length cap) k ∧ Only (fun _ => False) w w' ∧ (∀ j, blk (.slice ao k.length cap) = some j → w.heap.size ≤ j) := by
  have h := run_bytes_of_string (P := Tryd.prog) w 9 22 5 ⟨k.toArray⟩ Tryd.underlying9 Tryd.underlying22 Tryd.underlying5
  have e : ByteArray.size ⟨k.toArray⟩ = k.length := rfl
  rw [e] at h
  have hge := grownCap_ge w k.length 0 5
  have hle := grownCap_le_maxLen w k.length 0 5 hk
  generalize grownCap w k.length 0 5 = cap at *
  refine ⟨_, _, _, h, Or.inr ⟨_, cap, rfl, fun _ => rfl, hge, hle, fun _ => by simp, fun j hj => ?_⟩, ((Only.refl _ w).drew).alloc _, fun j hj => ?_⟩
  · rw [Nat.zero_add]
    have hc := World.cell?_alloc_mark w.drew (bytesRow ⟨k.toArray⟩ cap) 5 ((bytesRow ⟨k.toArray⟩ cap).size, (bytesRow ⟨k.toArray⟩ cap).size + 1) j
    rw [show w.drew.heap.size = w.heap.size from rfl] at hc
    rw [hc, bytesRow_at _ _ _ (by simpa using hj)]
    simp [bv]
  · simp only [blk, Option.map_some, Option.some.injEq] at hj
    omega
theorem wpList_tobytes {w : World} {ops : Array Oper} {rest : List Oper} {o : Oper} {a : Act} {Q : Exit → Act → World → Prop} (hg : o.guard = none) (x : Operand) (hop : o.op = Op.convert 9 22 x) (k : List UInt8) (hx : a.eval x = encStr k) (hk : k.length ≤ maxLen)
    (hK : ∀ ao cap w', Has w' (.slice ao k.length cap) k → Only (fun _ => False) w w' → (∀ j, blk (.slice ao k.length cap) = some j → w.heap.size ≤ j) → wpList Tryd.prog ops Q rest (a.put o.dst (.slice ao k.length cap)) w') : wpList Tryd.prog ops Q (o :: rest) a w := by
  obtain ⟨ao, cap, w', hr, h1, h2, h3⟩ := conv_bytes k hk w
  refine wpList_plain hg fun K hK' => ?_
  unfold Oper.wp
  simp only [execOp, hop, hx, Sem.run_bind, Sem.run_pure, hr, Result.andThen]
  exact hK' _ _ (hK ao cap w' h1 h2 h3)

theorem owns_blk {base : Nat} {w : World} {v : Value} {bs : List UInt8} (h : Owns base w v bs) : ∀ k, blk v = some k → base ≤ k := by
  intro k hk
  rcases h.out.2 with ⟨rfl, _⟩ | ⟨g, cap, cur, rfl, hb, _⟩
  · cases hk
  · simp only [blk, Option.map_some, Option.some.injEq] at hk
    omega
theorem w64_wrap (n : Int) : W64 (wrap64 n) := by unfold W64 wrap64; omega

theorem index_0 (W : World) : Sem.run Tryd.prog (Instr.index 63 (.agg #[.string ⟨#[]⟩, .string ⟨#[97, 98, 99]⟩, .string ⟨#[226, 130, 172]⟩, .string ⟨#[48, 49, 50, 51, 52, 53, 54, 55, 56, 57]⟩]) (.int .i64 0)) W = .ok (.string ⟨#[]⟩) W := by simp [Instr.index, go_sem]
theorem index_1 (W : World) : Sem.run Tryd.prog (Instr.index 63 (.agg #[.string ⟨#[]⟩, .string ⟨#[97, 98, 99]⟩, .string ⟨#[226, 130, 172]⟩, .string ⟨#[48, 49, 50, 51, 52, 53, 54, 55, 56, 57]⟩]) (.int .i64 1)) W = .ok (.string ⟨#[97, 98, 99]⟩) W := by simp [Instr.index, go_sem]
theorem index_2 (W : World) : Sem.run Tryd.prog (Instr.index 63 (.agg #[.string ⟨#[]⟩, .string ⟨#[97, 98, 99]⟩, .string ⟨#[226, 130, 172]⟩, .string ⟨#[48, 49, 50, 51, 52, 53, 54, 55, 56, 57]⟩]) (.int .i64 2)) W = .ok (.string ⟨#[226, 130, 172]⟩) W := by simp [Instr.index, go_sem]
theorem index_3 (W : World) : Sem.run Tryd.prog (Instr.index 63 (.agg #[.string ⟨#[]⟩, .string ⟨#[97, 98, 99]⟩, .string ⟨#[226, 130, 172]⟩, .string ⟨#[48, 49, 50, 51, 52, 53, 54, 55, 56, 57]⟩]) (.int .i64 3)) W = .ok (.string ⟨#[48, 49, 50, 51, 52, 53, 54, 55, 56, 57]⟩) W := by simp [Instr.index, go_sem]

/-- behind the item's making -/
def CutT (w5 wx : World) (t y : Int) (iv : Value) : Prop := ∃ ib, iv = .pointer (some ⟨ib, 0, none⟩) ∧ wx.heap[ib]? = some (.cells #[.int .i64 t, .int .i64 y, .int .i64 0, .slice none 0 0, .slice none 0 0] 25 (0, 0)) ∧ w5.heap.size ≤ ib ∧ Only (fun _ => False) w5 wx

abbrev zItem : Obj := .cells #[.int .i64 0, .int .i64 0, .int .i64 0, .slice none 0 0, .slice none 0 0] 25

/-- the item that is made, behind some kids -/
structure TLoop (wc wr : World) (ib n : Nat) (t y : Int) (kv : Value) (acc : List It) : Prop where
  blk : wr.heap[ib]? = some (.cells #[.int .i64 t, .int .i64 y, .int .i64 0, .slice none 0 0, kv] 25 (0, 0))
  row : RowI (fun j => wc.heap.size ≤ j) wc.heap.size (n + 1) wr kv acc
  small : It.smallAll 32 acc
  only : Only (fun j => j = ib) wc wr

/-- behind all kids -/
def TEnd (wc wx : World) (ib n : Nat) (t y : Int) (fl : Value) (pf : Nat → Nat) (i L : Nat) : Prop := ∃ acc kv, fl = .bool (!acc.isEmpty) ∧ TLoop wc wx ib n t y kv acc ∧ It.countAll acc ≤ kidSum pf i (cnt pf L n) L

/-- the item that is made, behind its kids -/
structure TMid (wb wx : World) (ib n : Nat) (kv : Value) (acc : List It) : Prop where
  ex : ∃ t y nn dv d, wx.heap[ib]? = some (.cells #[.int .i64 t, .int .i64 y, .int .i64 nn, dv, kv] 25 (0, 0)) ∧ W64 t ∧ W64 y ∧ W64 nn ∧ Has wx dv d ∧ d.length ≤ 32 ∧ ∀ k, blk dv = some k → wb.heap.size ≤ k
  row : RowI (fun j => wb.heap.size ≤ j) wb.heap.size (n + 1) wx kv acc
  only : Only (fun j => j = ib) wb wx

section
variable {wb wx w2 : World} {ib n : Nat} {t y : Int} {kv : Value} {acc : List It}
theorem TLoop.mid (h : TLoop wb wx ib n t y kv acc) (ht : W64 t) (hy : W64 y) : TMid wb wx ib n kv acc :=
  ⟨⟨t, y, 0, _, [], h.blk, ht, hy, ⟨by decide, by decide⟩, Or.inl ⟨rfl, rfl⟩, by simp, fun k hk => by cases hk⟩, h.row, h.only⟩
theorem TMid.same (h : TMid wb wx ib n kv acc) (ho : Only (fun _ => False) wx w2) : TMid wb w2 ib n kv acc := by
  obtain ⟨t, y, nn, dv, d, hb, h1, h2, h3, h4, h5, h6⟩ := h.ex
  exact ⟨⟨t, y, nn, dv, d, ho.heap hb (fun e => e), h1, h2, h3, h4.only ho (fun _ _ _ e => e), h5, h6⟩, h.row.same ho, h.only.trans ho (fun _ _ e => e.elim)⟩
theorem TMid.put (h : TMid wb wx ib n kv acc) (hib : ib < wb.heap.size) {t y nn : Int} {dv : Value} {d : List UInt8} (ho : Only (fun j => j = ib) wx w2) (hb : w2.heap[ib]? = some (.cells #[.int .i64 t, .int .i64 y, .int .i64 nn, dv, kv] 25 (0, 0)))
    (h1 : W64 t) (h2 : W64 y) (h3 : W64 nn) (h4 : Has wx dv d) (h5 : d.length ≤ 32) (h6 : ∀ k, blk dv = some k → wb.heap.size ≤ k) : TMid wb w2 ib n kv acc :=
  ⟨⟨t, y, nn, dv, d, hb, h1, h2, h3, h4.only ho (fun _ k hk e => by have h : k = ib := e; have := h6 k hk; omega), h5, h6⟩,
    h.row.later ho (fun j hj hq e => by have h : j = ib := e; omega) (fun j hj e => by have h' : j = ib := e; have := (h.row.lt j hj).1; omega), h.only.trans ho (fun _ _ e => e)⟩
theorem TMid.int (h : TMid wb wx ib n kv acc) (hib : ib < wb.heap.size) (v : Int) (hv : W64 v) : TMid wb (wx.setCell ⟨ib, 2, none⟩ (.int .i64 v)) ib n kv acc := by
  obtain ⟨t, y, nn, dv, d, hb, h1, h2, h3, h4, h5, h6⟩ := h.ex
  exact h.put hib ((Only.refl _ _).here 2 _) (by rw [two_setCell hb]; rfl) h1 h2 hv h4 h5 h6
theorem TMid.tag (h : TMid wb wx ib n kv acc) (hib : ib < wb.heap.size) (v : Int) (hv : W64 v) : TMid wb (wx.setCell ⟨ib, 0, none⟩ (.int .i64 v)) ib n kv acc := by
  obtain ⟨t, y, nn, dv, d, hb, h1, h2, h3, h4, h5, h6⟩ := h.ex
  exact h.put hib ((Only.refl _ _).here 0 _) (by rw [two_setCell hb]; rfl) hv h2 h3 h4 h5 h6
theorem TMid.typ (h : TMid wb wx ib n kv acc) (hib : ib < wb.heap.size) (v : Int) (hv : W64 v) : TMid wb (wx.setCell ⟨ib, 1, none⟩ (.int .i64 v)) ib n kv acc := by
  obtain ⟨t, y, nn, dv, d, hb, h1, h2, h3, h4, h5, h6⟩ := h.ex
  exact h.put hib ((Only.refl _ _).here 1 _) (by rw [two_setCell hb]; rfl) h1 hv h3 h4 h5 h6
theorem TMid.dat (h : TMid wb wx ib n kv acc) (hib : ib < wb.heap.size) (v : Value) (d' : List UInt8) (hv : Has wx v d') (hd : d'.length ≤ 32) (hk : ∀ k, blk v = some k → wb.heap.size ≤ k) : TMid wb (wx.setCell ⟨ib, 3, none⟩ v) ib n kv acc := by
  obtain ⟨t, y, nn, dv, d, hb, h1, h2, h3, h4, h5, h6⟩ := h.ex
  exact h.put hib ((Only.refl _ _).here 3 _) (by rw [two_setCell hb]; rfl) h1 h2 h3 hv hd hk
theorem TMid.cells (h : TMid wb wx ib n kv acc) : ∃ (t y nn : Int) (ao : Option Addr) (len cap : Nat), wx.cell? ⟨ib, 0, none⟩ = some (.int .i64 t) ∧ wx.cell? ⟨ib, 1, none⟩ = some (.int .i64 y) ∧ wx.cell? ⟨ib, 2, none⟩ = some (.int .i64 nn) ∧ wx.cell? ⟨ib, 3, none⟩ = some (.slice ao len cap) ∧ wx.cell? ⟨ib, 4, none⟩ = some kv ∧ ∀ j, wx.frozen? ⟨ib, j, none⟩ = false := by
  obtain ⟨t, y, nn, dv, d, hb, h1, h2, h3, h4, h5, h6⟩ := h.ex
  obtain ⟨ao, cap, rfl, _⟩ := h4.shape
  exact ⟨t, y, nn, ao, _, cap, two_5 hb⟩
end

/-- what tree answers -/
def TreeAs (X : Nat → Raw6) (m : Nat) (w w' : World) (n i : Nat) (e : Ending) : Prop := ∃ it dv kv, e = .returned (ival it dv kv) ∧ ItAt (fun k => w.heap.size ≤ k) w' (n + 1) it dv kv ∧ it.small 32 ∧ it.count ≤ cnt (fun k => ((X k).parent % k).toNat) (min m 30) n i ∧ Only (fun _ => False) w w'

set_option maxHeartbeats 1000000 in
set_option maxRecDepth 100000 in
theorem tree_leaf (lo : Option Addr) (lc m : Nat) (X : Nat → Raw6) (n i : Nat) (w : World) (hi : i ≤ 1000) (hm : (m : Int) < 9223372036854775808) (h : m ≤ i ∨ 30 ≤ i) :
    Calls Tryd.prog 13 #[.slice lo m lc, .int .i64 i] w fun e w' => TreeAs X m w w' n i e := by
  by_cases hmi : m ≤ i
  · have hmi' : (m : Int) ≤ i := by omega
    clear h
    go_enter Tryd.func13, Tryd.ntmps13
    go_wp2
    (try simp only [Exit.inBlock, Exit.then])
    have hB := two_5 (heap_alloc_new w (.cells #[.int .i64 4325377, .int .i64 1, .int .i64 0, .slice none 0 0, .slice none 0 0] 25))
    obtain ⟨t0, t1, t2, t3, t4, _⟩ := hB
    refine bodyPost_ret (v := ival (.mk 4325377 1 0 [] []) (.slice none 0 0) (.slice none 0 0)) (by simp [results, Tryd.results13, go_sem, t0, t1, t2, t3, t4, It.tag, It.typ, It.int]) rfl ?_
    exact ⟨_, _, _, rfl, ⟨Or.inl ⟨rfl, rfl⟩, fun h => absurd rfl h, Or.inl ⟨rfl, rfl⟩⟩, by simp [It.small, It.smallAll, W64], by simp [It.count, It.countAll]; exact cnt_pos _ _ _ _, (Only.refl _ _).alloc _⟩
  · have hmi' : ¬ (m : Int) ≤ i := by omega
    have h30 : (30 : Int) ≤ i := by omega
    clear h
    go_enter Tryd.func13, Tryd.ntmps13
    go_wp2
    (try simp only [Exit.inBlock, Exit.then])
    have hB := two_5 (heap_alloc_new w (.cells #[.int .i64 4325377, .int .i64 1, .int .i64 0, .slice none 0 0, .slice none 0 0] 25))
    obtain ⟨t0, t1, t2, t3, t4, _⟩ := hB
    refine bodyPost_ret (v := ival (.mk 4325377 1 0 [] []) (.slice none 0 0) (.slice none 0 0)) (by simp [results, Tryd.results13, go_sem, t0, t1, t2, t3, t4, It.tag, It.typ, It.int]) rfl ?_
    exact ⟨_, _, _, rfl, ⟨Or.inl ⟨rfl, rfl⟩, fun h => absurd rfl h, Or.inl ⟨rfl, rfl⟩⟩, by simp [It.small, It.smallAll, W64], by simp [It.count, It.countAll]; exact cnt_pos _ _ _ _, (Only.refl _ _).alloc _⟩

set_option maxHeartbeats 4000000 in
set_option maxRecDepth 100000 in
theorem tree_any (lv : Value) (m : Nat) (X : Nat → Raw6) : ∀ (n i : Nat) (w : World), Raws6 w lv m X → 30 ≤ i + n → i ≤ 1000 →
    Calls Tryd.prog 13 #[lv, .int .i64 i] w fun e w' => TreeAs X m w w' n i e := by
  intro n
  induction n with
  | zero =>
    intro i w hX hin hi
    obtain ⟨lo, lc, hls, _, hcm, _⟩ := hX.shape
    subst hls
    exact tree_leaf lo lc m X 0 i w hi (by unfold maxLen at hcm; omega) (Or.inr (by omega))
  | succ n ih =>
    intro i w hX hin hi
    obtain ⟨lo, lc, hls, hlm, hcm, hcells⟩ := hX.shape
    subst hls
    have hmx : (m : Int) < 9223372036854775808 := by unfold maxLen at hcm; omega
    by_cases hleaf : m ≤ i ∨ 30 ≤ i
    · exact tree_leaf lo lc m X (n + 1) i w hi hmx hleaf
    · have him : i < m := by omega
      have hi30 : i < 30 := by omega
      have hmi' : ¬ (m : Int) ≤ i := by omega
      have hi30' : ¬ (30 : Int) ≤ i := by omega
      have himi : (i : Int) < m := by omega
      have HX := hide hX
      obtain ⟨bb, off, hao, hbw, hcs⟩ := hcells (by omega)
      subst hao
      have HCS := hide hcs
      obtain ⟨x0, x1, x2, x3, x4, x5⟩ := hcs i him
      have HRK := hide (hX.each i him)
      obtain ⟨dvo, dvc, hdv, _⟩ := (hX.each i him).data.shape
      obtain ⟨r, hr⟩ : ∃ r, r = X i := ⟨_, rfl⟩
      rw [← hr] at x0 x1 x2 x3 x4 x5 HRK hdv
      rw [hdv] at x4
      have HDV := hide hdv
      clear hdv
      clear hX hcells hcs hleaf hmi' hr
      have hmi' : ¬ (m : Int) ≤ i := by omega
      go_enter Tryd.func13, Tryd.ntmps13
      go_wp2_with fail
      have e1 : (w.alloc (.cells #[.int .i64 0, .int .i64 0, .int .i64 0, .slice none 0 0, .slice none 0 0] 25)).heap.size = w.heap.size + 1 := by simp
      have hB4 := heap_alloc_new w (.cells #[.int .i64 0, .int .i64 0, .int .i64 0, .slice none 0 0, .slice none 0 0] 25)
      have o4 := (Only.refl (fun _ => False) w).alloc (.cells #[.int .i64 0, .int .i64 0, .int .i64 0, .slice none 0 0, .slice none 0 0] 25)
      have hB5 := heap_alloc_new (w.alloc (.cells #[.int .i64 0, .int .i64 0, .int .i64 0, .slice none 0 0, .slice none 0 0] 25)) (.cells #[.int .i64 r.typ, .int .i64 r.parent, .int .i64 r.tag, .int .i64 r.num, .slice dvo r.data.length dvc, .int .i64 r.odd] 61)
      have o5 := (Only.refl (fun _ => False) (w.alloc (.cells #[.int .i64 0, .int .i64 0, .int .i64 0, .slice none 0 0, .slice none 0 0] 25))).alloc (.cells #[.int .i64 r.typ, .int .i64 r.parent, .int .i64 r.tag, .int .i64 r.num, .slice dvo r.data.length dvc, .int .i64 r.odd] 61)
      rw [e1] at hB5
      have hR5 := o5.heap hB4 (fun e => e)
      have o05 := o4.trans o5 (fun _ _ e => e)
      generalize (w.alloc (.cells #[.int .i64 0, .int .i64 0, .int .i64 0, .slice none 0 0, .slice none 0 0] 25)).alloc (.cells #[.int .i64 r.typ, .int .i64 r.parent, .int .i64 r.tag, .int .i64 r.num, .slice dvo r.data.length dvc, .int .i64 r.odd] 61) = w5 at *
      have hs5 : w.heap.size + 1 < w5.heap.size := lt_of_block hB5
      obtain ⟨c0, c1, c2, c3, c4, c5⟩ := two_6 hB5
      have HB5 := hide hB5
      have HR5 := hide hR5
      have HO5 := hide o05
      obtain ⟨p, hp⟩ := Int.eq_ofNat_of_zero_le (Int.emod_nonneg r.tag (by decide : (200 : Int) ≠ 0))
      have HP := hide hp
      have hp2 := Int.emod_lt_of_pos r.tag (by decide : (0 : Int) < 200)
      rw [hp] at hp2
      obtain ⟨q, hq⟩ := Int.eq_ofNat_of_zero_le (Int.emod_nonneg r.typ (by decide : (10 : Int) ≠ 0))
      have HQ := hide hq
      have hq2 := Int.emod_lt_of_pos r.typ (by decide : (0 : Int) < 10)
      rw [hq] at hq2
      have HWP : Hid (IntKind.i64.wrap (4325376 + (p : Int)) = 4325376 + (p : Int)) := by show _ = _; rw [IntKind.wrap_i64]; omega
      have HWQ : Hid (IntKind.i64.wrap (1 + (q : Int)) = 1 + (q : Int)) := by show _ = _; rw [IntKind.wrap_i64]; omega
      clear hB4 hB5 hR5 o4 o5 o05 e1 hp hq x0 x1 x2 x3 x4 x5
      go_cut [6] (fun iv wx => CutT w5 wx (4325376 + (p : Int)) (1 + (q : Int)) iv)
      case first =>
        refine wp_region_held_drew (S := (fun w' => w'.cell? ⟨w.heap.size + 1, 0, none⟩ = some (.int .i64 r.typ) ∧ w'.cell? ⟨w.heap.size + 1, 2, none⟩ = some (.int .i64 r.tag))) (by kernel_rfl) (⟨c0, c2⟩) (fun hHeld => ?_)
        refine wpAnyH_take (i := 0) (v := ?v1) rfl (by kernel_rfl) (by kernel_rfl) (by kernel_rfl) (fun _ _ _ h => h) (Or.inl ⟨by rfl, ?hy1⟩) (by assumption) ?rest1
        case hy1 =>
          intro w hSw
          go_simp
          try with_reducible rfl
        try simp only [Act.put, List.setIfInBounds_toArray, List.set_cons_zero, List.set_cons_succ, List.getElem_toArray, List.getElem_cons_succ, List.getElem_cons_zero]
        refine wpAnyH_take (i := 1) (v := ?v2) rfl (by kernel_rfl) (by kernel_rfl) (by kernel_rfl) (fun _ _ _ h => h) (Or.inl ⟨by rfl, ?hy2⟩) (by assumption) ?rest2
        case hy2 =>
          intro w hSw
          (obtain ⟨q0, q1⟩ := hSw; go_simp; try with_reducible rfl)
        try simp only [Act.put, List.setIfInBounds_toArray, List.set_cons_zero, List.set_cons_succ, List.getElem_toArray, List.getElem_cons_succ, List.getElem_cons_zero]
        refine wpAnyH_take (i := 4) (v := ?v3) rfl (by kernel_rfl) (by kernel_rfl) (by kernel_rfl) (fun _ _ _ h => h) (Or.inl ⟨by rfl, ?hy3⟩) (by assumption) ?rest3
        case hy3 =>
          intro w hSw
          go_simp
          try with_reducible rfl
        try simp only [Act.put, List.setIfInBounds_toArray, List.set_cons_zero, List.set_cons_succ, List.getElem_toArray, List.getElem_cons_succ, List.getElem_cons_zero]
        refine wpAnyH_take (i := 5) (v := ?v4) rfl (by kernel_rfl) (by kernel_rfl) (by kernel_rfl) (fun _ _ _ h => h) (Or.inl ⟨by rfl, ?hy4⟩) (by assumption) ?rest4
        case hy4 =>
          intro w hSw
          (obtain ⟨q0, q1⟩ := hSw; go_simp; try with_reducible rfl)
        try simp only [Act.put, List.setIfInBounds_toArray, List.set_cons_zero, List.set_cons_succ, List.getElem_toArray, List.getElem_cons_succ, List.getElem_cons_zero]
        refine wpAnyH_ready (rs := [2, 9]) (by kernel_rfl) (by simp) ?_
        refine (AllReadyH.cons rfl (fun K hK => ?_) (AllReadyH.cons rfl (fun K hK => ?_) AllReadyH.nil))
        · skip
          go_simp
          go_wp2_with fail; refine (pick_any r.tag 200 _ (by decide) (by decide)).mono ?_; rintro e wx ⟨rfl, hwx⟩; rw [hwx, unhide HP]; clear hwx wx
          refine hK.out _ _ (⟨c0, c2⟩) (fun hHeld => ?_)
          clear hK K
          try simp only [Act.put, List.setIfInBounds_toArray, List.set_cons_zero, List.set_cons_succ, List.getElem_toArray, List.getElem_cons_succ, List.getElem_cons_zero]
          refine wpAnyH_take (i := 3) (v := ?v5) rfl (by kernel_rfl) (by kernel_rfl) (by kernel_rfl) (fun _ _ _ h => h) (Or.inl ⟨by rfl, ?hy5⟩) (by assumption) ?rest5
          case hy5 =>
            intro w hSw
            go_simp
            try with_reducible rfl
          try simp only [Act.put, List.setIfInBounds_toArray, List.set_cons_zero, List.set_cons_succ, List.getElem_toArray, List.getElem_cons_succ, List.getElem_cons_zero]
          rw [unhide HWP]
          refine wpAnyH_ready (rs := [6, 9]) (by kernel_rfl) (by simp) ?_
          refine (AllReadyH.cons rfl (fun K hK => ?_) (AllReadyH.cons rfl (fun K hK => ?_) AllReadyH.nil))
          · skip
            go_simp
            go_wp2_with fail; refine (pick_any r.typ 10 _ (by decide) (by decide)).mono ?_; rintro e wx ⟨rfl, hwx⟩; rw [hwx, unhide HQ]; clear hwx wx
            refine hK.out _ _ (⟨c0, c2⟩) (fun hHeld => ?_)
            clear hK K
            try simp only [Act.put, List.setIfInBounds_toArray, List.set_cons_zero, List.set_cons_succ, List.getElem_toArray, List.getElem_cons_succ, List.getElem_cons_zero]
            refine wpAnyH_take (i := 7) (v := ?v6) rfl (by kernel_rfl) (by kernel_rfl) (by kernel_rfl) (fun _ _ _ h => h) (Or.inl ⟨by rfl, ?hy6⟩) (by assumption) ?rest6
            case hy6 =>
              intro w hSw
              go_simp
              try with_reducible rfl
            try simp only [Act.put, List.setIfInBounds_toArray, List.set_cons_zero, List.set_cons_succ, List.getElem_toArray, List.getElem_cons_succ, List.getElem_cons_zero]
            rw [unhide HWQ]
            refine wpAnyH_take (i := 8) (v := ?v7) rfl (by kernel_rfl) (by kernel_rfl) (by kernel_rfl) (fun _ _ _ h => h) (Or.inl ⟨by rfl, ?hy7⟩) (by assumption) ?rest7
            case hy7 =>
              intro w hSw
              go_simp
              try with_reducible rfl
            try simp only [Act.put, List.setIfInBounds_toArray, List.set_cons_zero, List.set_cons_succ, List.getElem_toArray, List.getElem_cons_succ, List.getElem_cons_zero]
            have hI : ((w5.alloc (.cells #[.int .i64 0, .int .i64 0, .int .i64 0, .slice none 0 0, .slice none 0 0] 25)).drew).heap[w5.heap.size]? = some (.cells #[.int .i64 0, .int .i64 0, .int .i64 0, .slice none 0 0, .slice none 0 0] 25 (0, 0)) := heap_alloc_new w5 _
            have oI : Only (fun _ => False) w5 ((w5.alloc (.cells #[.int .i64 0, .int .i64 0, .int .i64 0, .slice none 0 0, .slice none 0 0] 25)).drew) := ((Only.refl _ _).alloc _).drew
            refine wpAnyH_ready (rs := [9]) (by kernel_rfl) (by simp) ?_
            refine AllReadyH.cons rfl (fun K hK => ?_) AllReadyH.nil
            go_simp
            refine hK.out _ _ (⟨oI.cell c0 (fun e => e), oI.cell c2 (fun e => e)⟩) (fun hHeld => ?_)
            clear hK K
            try simp only [Act.put, List.setIfInBounds_toArray, List.set_cons_zero, List.set_cons_succ, List.getElem_toArray, List.getElem_cons_succ, List.getElem_cons_zero]
            have hI2 : ((w5.alloc (.cells #[.int .i64 (4325376 + (p : Int)), .int .i64 (1 + (q : Int)), .int .i64 0, .slice none 0 0, .slice none 0 0] 25)).drew).heap[w5.heap.size]? = some (.cells #[.int .i64 (4325376 + (p : Int)), .int .i64 (1 + (q : Int)), .int .i64 0, .slice none 0 0, .slice none 0 0] 25 (0, 0)) := heap_alloc_new w5 _
            have oI2 : Only (fun _ => False) w5 ((w5.alloc (.cells #[.int .i64 (4325376 + (p : Int)), .int .i64 (1 + (q : Int)), .int .i64 0, .slice none 0 0, .slice none 0 0] 25)).drew) := ((Only.refl _ _).alloc _).drew
            refine wpAnyH_ready (rs := [10]) (by kernel_rfl) (by simp) ?_
            refine AllReadyH.cons rfl (fun K hK => ?_) AllReadyH.nil
            go_simp
            refine hK.out _ _ (⟨oI2.cell c0 (fun e => e), oI2.cell c2 (fun e => e)⟩) (fun hHeld => ?_)
            clear hK K
            try simp only [Act.put, List.setIfInBounds_toArray, List.set_cons_zero, List.set_cons_succ, List.getElem_toArray, List.getElem_cons_succ, List.getElem_cons_zero]
            refine wpAnyH_done (by kernel_rfl) ?_ _
            generalize (w5.alloc (.cells #[.int .i64 (4325376 + (p : Int)), .int .i64 (1 + (q : Int)), .int .i64 0, .slice none 0 0, .slice none 0 0] 25)).drew = w7 at *
            have HI2 := hide hI2
            have HOI2 := hide oI2
            clear hI oI hI2 oI2 hHeld
            go_wp2
            go_meet
            case rel => exact ⟨w5.heap.size, rfl, unhide HI2, Nat.le_refl _, unhide HOI2⟩
          · skip
            have hI : ((w5.alloc (.cells #[.int .i64 0, .int .i64 0, .int .i64 0, .slice none 0 0, .slice none 0 0] 25)).drew).heap[w5.heap.size]? = some (.cells #[.int .i64 0, .int .i64 0, .int .i64 0, .slice none 0 0, .slice none 0 0] 25 (0, 0)) := heap_alloc_new w5 _
            have oI : Only (fun _ => False) w5 ((w5.alloc (.cells #[.int .i64 0, .int .i64 0, .int .i64 0, .slice none 0 0, .slice none 0 0] 25)).drew) := ((Only.refl _ _).alloc _).drew
            go_simp
            refine hK.out _ _ (⟨oI.cell c0 (fun e => e), oI.cell c2 (fun e => e)⟩) (fun hHeld => ?_)
            clear hK K
            try simp only [Act.put, List.setIfInBounds_toArray, List.set_cons_zero, List.set_cons_succ, List.getElem_toArray, List.getElem_cons_succ, List.getElem_cons_zero]
            generalize (w5.alloc (.cells #[.int .i64 0, .int .i64 0, .int .i64 0, .slice none 0 0, .slice none 0 0] 25)).drew = w7 at *
            refine wpAnyH_ready (rs := [6]) (by kernel_rfl) (by simp) ?_
            refine AllReadyH.cons rfl (fun K hK => ?_) AllReadyH.nil
            go_simp
            go_wp2_with fail; refine (pick_any r.typ 10 _ (by decide) (by decide)).mono ?_; rintro e wx ⟨rfl, hwx⟩; rw [hwx, unhide HQ]; clear hwx wx
            refine hK.out _ _ (⟨oI.cell c0 (fun e => e), oI.cell c2 (fun e => e)⟩) (fun hHeld => ?_)
            clear hK K
            try simp only [Act.put, List.setIfInBounds_toArray, List.set_cons_zero, List.set_cons_succ, List.getElem_toArray, List.getElem_cons_succ, List.getElem_cons_zero]
            refine wpAnyH_take (i := 7) (v := ?v8) rfl (by kernel_rfl) (by kernel_rfl) (by kernel_rfl) (fun _ _ _ h => h) (Or.inl ⟨by rfl, ?hy8⟩) (by assumption) ?rest8
            case hy8 =>
              intro w hSw
              go_simp
              try with_reducible rfl
            try simp only [Act.put, List.setIfInBounds_toArray, List.set_cons_zero, List.set_cons_succ, List.getElem_toArray, List.getElem_cons_succ, List.getElem_cons_zero]
            rw [unhide HWQ]
            refine wpAnyH_take (i := 8) (v := ?v9) rfl (by kernel_rfl) (by kernel_rfl) (by kernel_rfl) (fun _ _ _ h => h) (Or.inl ⟨by rfl, ?hy9⟩) (by assumption) ?rest9
            case hy9 =>
              intro w hSw
              go_simp
              try with_reducible rfl
            try simp only [Act.put, List.setIfInBounds_toArray, List.set_cons_zero, List.set_cons_succ, List.getElem_toArray, List.getElem_cons_succ, List.getElem_cons_zero]
            obtain ⟨z0, z1, z2, z3, z4, zf⟩ := two_5 hI
            have hne : w.heap.size + 1 ≠ w5.heap.size := by omega
            have HSET := hide (set_5 hI (.int .i64 (4325376 + (p : Int))) (.int .i64 (1 + (q : Int))) (.int .i64 0) (.slice none 0 0) (.slice none 0 0))
            have o8 : Only (fun k => k = w5.heap.size) w7 (((((w7.setCell ⟨w5.heap.size, 0, none⟩ (.int .i64 (4325376 + (p : Int)))).setCell ⟨w5.heap.size, 1, none⟩ (.int .i64 (1 + (q : Int)))).setCell ⟨w5.heap.size, 2, none⟩ (.int .i64 0)).setCell ⟨w5.heap.size, 3, none⟩ (.slice none 0 0)).setCell ⟨w5.heap.size, 4, none⟩ (.slice none 0 0)) := (((((Only.refl _ _).here 0 _).here 1 _).here 2 _).here 3 _).here 4 _
            refine wpAnyH_ready (rs := [10]) (by kernel_rfl) (by simp) ?_
            refine AllReadyH.cons rfl (fun K hK => ?_) AllReadyH.nil
            go_simp
            refine hK.out _ _ (⟨o8.cell (oI.cell c0 (fun e => e)) hne, o8.cell (oI.cell c2 (fun e => e)) hne⟩) (fun hHeld => ?_)
            clear hK K
            try simp only [Act.put, List.setIfInBounds_toArray, List.set_cons_zero, List.set_cons_succ, List.getElem_toArray, List.getElem_cons_succ, List.getElem_cons_zero]
            refine wpAnyH_done (by kernel_rfl) ?_ _
            have HF := hide ((oI.mono (T := fun k => k = w5.heap.size) (fun _ _ e => e.elim)).trans o8 (fun _ _ e => e))
            have HF2 : Hid (Only (fun _ => False) w5 _) := ⟨(unhide HF).os, (unhide HF).tape, (unhide HF).output, (unhide HF).size, fun k hk _ => (unhide HF).block k hk (fun e => by omega)⟩
            clear z0 z1 z2 z3 z4 zf o8 hHeld
            go_wp2
            go_meet
            case rel => exact ⟨w5.heap.size, rfl, unhide HSET, Nat.le_refl _, unhide HF2⟩
        · skip
          have hI : ((w5.alloc (.cells #[.int .i64 0, .int .i64 0, .int .i64 0, .slice none 0 0, .slice none 0 0] 25)).drew).heap[w5.heap.size]? = some (.cells #[.int .i64 0, .int .i64 0, .int .i64 0, .slice none 0 0, .slice none 0 0] 25 (0, 0)) := heap_alloc_new w5 _
          have oI : Only (fun _ => False) w5 ((w5.alloc (.cells #[.int .i64 0, .int .i64 0, .int .i64 0, .slice none 0 0, .slice none 0 0] 25)).drew) := ((Only.refl _ _).alloc _).drew
          go_simp
          refine hK.out _ _ (⟨oI.cell c0 (fun e => e), oI.cell c2 (fun e => e)⟩) (fun hHeld => ?_)
          clear hK K
          try simp only [Act.put, List.setIfInBounds_toArray, List.set_cons_zero, List.set_cons_succ, List.getElem_toArray, List.getElem_cons_succ, List.getElem_cons_zero]
          generalize (w5.alloc (.cells #[.int .i64 0, .int .i64 0, .int .i64 0, .slice none 0 0, .slice none 0 0] 25)).drew = w7 at *
          refine wpAnyH_ready (rs := [2]) (by kernel_rfl) (by simp) ?_
          refine AllReadyH.cons rfl (fun K hK => ?_) AllReadyH.nil
          go_simp
          go_wp2_with fail; refine (pick_any r.tag 200 _ (by decide) (by decide)).mono ?_; rintro e wx ⟨rfl, hwx⟩; rw [hwx, unhide HP]; clear hwx wx
          refine hK.out _ _ (⟨oI.cell c0 (fun e => e), oI.cell c2 (fun e => e)⟩) (fun hHeld => ?_)
          clear hK K
          try simp only [Act.put, List.setIfInBounds_toArray, List.set_cons_zero, List.set_cons_succ, List.getElem_toArray, List.getElem_cons_succ, List.getElem_cons_zero]
          refine wpAnyH_take (i := 3) (v := ?v10) rfl (by kernel_rfl) (by kernel_rfl) (by kernel_rfl) (fun _ _ _ h => h) (Or.inl ⟨by rfl, ?hy10⟩) (by assumption) ?rest10
          case hy10 =>
            intro w hSw
            go_simp
            try with_reducible rfl
          try simp only [Act.put, List.setIfInBounds_toArray, List.set_cons_zero, List.set_cons_succ, List.getElem_toArray, List.getElem_cons_succ, List.getElem_cons_zero]
          rw [unhide HWP]
          refine wpAnyH_ready (rs := [6]) (by kernel_rfl) (by simp) ?_
          refine AllReadyH.cons rfl (fun K hK => ?_) AllReadyH.nil
          go_simp
          go_wp2_with fail; refine (pick_any r.typ 10 _ (by decide) (by decide)).mono ?_; rintro e wx ⟨rfl, hwx⟩; rw [hwx, unhide HQ]; clear hwx wx
          refine hK.out _ _ (⟨oI.cell c0 (fun e => e), oI.cell c2 (fun e => e)⟩) (fun hHeld => ?_)
          clear hK K
          try simp only [Act.put, List.setIfInBounds_toArray, List.set_cons_zero, List.set_cons_succ, List.getElem_toArray, List.getElem_cons_succ, List.getElem_cons_zero]
          refine wpAnyH_take (i := 7) (v := ?v11) rfl (by kernel_rfl) (by kernel_rfl) (by kernel_rfl) (fun _ _ _ h => h) (Or.inl ⟨by rfl, ?hy11⟩) (by assumption) ?rest11
          case hy11 =>
            intro w hSw
            go_simp
            try with_reducible rfl
          try simp only [Act.put, List.setIfInBounds_toArray, List.set_cons_zero, List.set_cons_succ, List.getElem_toArray, List.getElem_cons_succ, List.getElem_cons_zero]
          rw [unhide HWQ]
          refine wpAnyH_take (i := 8) (v := ?v12) rfl (by kernel_rfl) (by kernel_rfl) (by kernel_rfl) (fun _ _ _ h => h) (Or.inl ⟨by rfl, ?hy12⟩) (by assumption) ?rest12
          case hy12 =>
            intro w hSw
            go_simp
            try with_reducible rfl
          try simp only [Act.put, List.setIfInBounds_toArray, List.set_cons_zero, List.set_cons_succ, List.getElem_toArray, List.getElem_cons_succ, List.getElem_cons_zero]
          obtain ⟨z0, z1, z2, z3, z4, zf⟩ := two_5 hI
          have hne : w.heap.size + 1 ≠ w5.heap.size := by omega
          have HSET := hide (set_5 hI (.int .i64 (4325376 + (p : Int))) (.int .i64 (1 + (q : Int))) (.int .i64 0) (.slice none 0 0) (.slice none 0 0))
          have o8 : Only (fun k => k = w5.heap.size) w7 (((((w7.setCell ⟨w5.heap.size, 0, none⟩ (.int .i64 (4325376 + (p : Int)))).setCell ⟨w5.heap.size, 1, none⟩ (.int .i64 (1 + (q : Int)))).setCell ⟨w5.heap.size, 2, none⟩ (.int .i64 0)).setCell ⟨w5.heap.size, 3, none⟩ (.slice none 0 0)).setCell ⟨w5.heap.size, 4, none⟩ (.slice none 0 0)) := (((((Only.refl _ _).here 0 _).here 1 _).here 2 _).here 3 _).here 4 _
          refine wpAnyH_ready (rs := [10]) (by kernel_rfl) (by simp) ?_
          refine AllReadyH.cons rfl (fun K hK => ?_) AllReadyH.nil
          go_simp
          refine hK.out _ _ (⟨o8.cell (oI.cell c0 (fun e => e)) hne, o8.cell (oI.cell c2 (fun e => e)) hne⟩) (fun hHeld => ?_)
          clear hK K
          try simp only [Act.put, List.setIfInBounds_toArray, List.set_cons_zero, List.set_cons_succ, List.getElem_toArray, List.getElem_cons_succ, List.getElem_cons_zero]
          refine wpAnyH_done (by kernel_rfl) ?_ _
          have HF := hide ((oI.mono (T := fun k => k = w5.heap.size) (fun _ _ e => e.elim)).trans o8 (fun _ _ e => e))
          have HF2 : Hid (Only (fun _ => False) w5 _) := ⟨(unhide HF).os, (unhide HF).tape, (unhide HF).output, (unhide HF).size, fun k hk _ => (unhide HF).block k hk (fun e => by omega)⟩
          clear z0 z1 z2 z3 z4 zf o8 hHeld
          go_wp2
          go_meet
          case rel => exact ⟨w5.heap.size, rfl, unhide HSET, Nat.le_refl _, unhide HF2⟩
      case rest =>
        obtain ⟨ib, rfl, hI, hib, oI⟩ := hcut
        generalize wc = wb at *
        have hibw := lt_of_block hI
        have HL0 : Hid (TLoop wb wb ib n (4325376 + (p : Int)) (1 + (q : Int)) (.slice none 0 0) []) := ⟨hI, rowI_nil _ _ _ _, trivial, Only.refl _ _⟩
        have HOc := hide ((unhide HO5).trans oI (fun _ _ e => e))
        have HXc := hide (oI.heap (unhide HB5) (fun e => e))
        have HRc := hide (oI.heap (unhide HR5) (fun e => e))
        clear hI oI c0 c1 c2 c3 c4 c5 HB5 HR5 HO5 HWP HWQ HP HQ
        obtain ⟨i0, hi0, hz0, hz1, hz2⟩ := info_parts Tryd.infoItem
        obtain ⟨pf, hpf⟩ : ∃ pf : Nat → Nat, pf = fun k => ((X k).parent % k).toNat := ⟨_, rfl⟩
        have HPF := hide hpf
        clear hpf
        have HK0 : Hid (It.countAll [] ≤ kidSum pf i (cnt pf (min m 30) n) (i + 1)) := Nat.zero_le _
        go_upto_block 0 with fail
        go_cut [7] (fun fl wx => TEnd wb wx ib n (4325376 + (p : Int)) (1 + (q : Int)) fl pf i (min m 30))
        case first =>
          go_wp2_with fail
          go_loopw [7, 8] (fun fl kk wr => ∃ k acc kv, i < k ∧ k ≤ m ∧ k ≤ 30 ∧ acc.length ≤ k ∧ kk = .int .i64 k ∧ fl = .bool (!acc.isEmpty) ∧ TLoop wb wr ib n (4325376 + (p : Int)) (1 + (q : Int)) kv acc ∧ It.countAll acc ≤ kidSum pf i (cnt pf (min m 30) n) k) (fun _ kk _ => 30 - (intOf kk).toNat)
          case atStart => exact ⟨i + 1, [], _, by omega, by omega, by omega, Nat.zero_le _, by go_num, rfl, unhide HL0, unhide HK0⟩
          case round =>
            obtain ⟨k, acc, kv, hik, hkm, hk30, hal, rfl, rfl, hT, hcnt⟩ := hrel
            have HT := hide hT
            have HCN := hide hcnt
            clear hT hcnt HL0 HK0
            by_cases hlt : k < m
            · by_cases hl30 : k < 30
              · have hli : (k : Int) < m := by omega
                have hl30i : (k : Int) < 30 := by omega
                have y1 : wr.cell? ⟨bb, off + k * 6 + 1, none⟩ = some (.int .i64 (X k).parent) := (unhide HT).only.cell ((unhide HOc).cell ((unhide HCS) k hlt).2.1 (fun e => e)) (fun e => by have h : bb = ib := e; omega)
                obtain ⟨pk, hpk⟩ := Int.eq_ofNat_of_zero_le (Int.emod_nonneg (X k).parent (by omega : (k : Int) ≠ 0))
                have HPK := hide hpk
                have HPFK : Hid (pf k = pk) := by show pf k = pk; rw [unhide HPF]; simp only; rw [hpk]; simp
                have HPA := hide (pick_any (X k).parent k wr (by omega) (by omega))
                have HIH := hide (fun (W : World) (o : Only (fun _ => False) w W) => ih k W ((unhide HX).same o) (by omega) (by omega))
                clear hpk
                generalize (X k).parent = par at *
                go_wp2_with fail
                refine (unhide HPA).mono ?_
                rintro e wr ⟨rfl, rfl⟩
                rw [unhide HPK]
                by_cases hpi : pk = i
                · subst hpi
                  obtain ⟨vo, vc, hkvs⟩ := (unhide HT).row.shape
                  subst hkvs
                  have d4 := (two_5 (unhide HT).blk).2.2.2.2.1
                  have HON : Hid (Only (fun _ => False) w wr) := by
                    have h := (unhide HOc).trans (unhide HT).only (fun j hj e => by have h : j = ib := e; omega)
                    exact h
                  go_wp2_with fail
                  -- REGION 11
                  refine wp_region_held_drew (S := (fun w' => True)) (by kernel_rfl) (trivial) (fun hHeld => ?_)
                  refine wpAnyH_take (i := 0) (v := ?v13) rfl (by kernel_rfl) (by kernel_rfl) (by kernel_rfl) (fun _ _ _ h => h) (Or.inl ⟨by rfl, ?hy13⟩) (by assumption) ?rest13
                  case hy13 =>
                    intro w hSw
                    go_simp
                    try with_reducible rfl
                  try simp only [Act.put, List.setIfInBounds_toArray, List.set_cons_zero, List.set_cons_succ, List.getElem_toArray, List.getElem_cons_succ, List.getElem_cons_zero]
                  refine wpAnyH_take (i := 2) (v := ?v14) rfl (by kernel_rfl) (by kernel_rfl) (by kernel_rfl) (fun _ _ _ h => h) (Or.inl ⟨by rfl, ?hy14⟩) (by assumption) ?rest14
                  case hy14 =>
                    intro w hSw
                    go_simp
                    try with_reducible rfl
                  try simp only [Act.put, List.setIfInBounds_toArray, List.set_cons_zero, List.set_cons_succ, List.getElem_toArray, List.getElem_cons_succ, List.getElem_cons_zero]
                  refine wpAnyH_take (i := 3) (v := ?v15) rfl (by kernel_rfl) (by kernel_rfl) (by kernel_rfl) (fun _ _ _ h => h) (Or.inl ⟨by rfl, ?hy15⟩) (by assumption) ?rest15
                  case hy15 =>
                    intro w hSw
                    go_simp
                    try with_reducible rfl
                  try simp only [Act.put, List.setIfInBounds_toArray, List.set_cons_zero, List.set_cons_succ, List.getElem_toArray, List.getElem_cons_succ, List.getElem_cons_zero]
                  refine wpAnyH_ready (rs := [1, 4]) (by kernel_rfl) (by simp) ?_
                  refine (AllReadyH.cons rfl (fun K hK => ?_) (AllReadyH.cons rfl (fun K hK => ?_) AllReadyH.nil))
                  · skip
                    go_simp
                    refine hK.out _ _ (trivial) (fun hHeld => ?_)
                    clear hK K
                    try simp only [Act.put, List.setIfInBounds_toArray, List.set_cons_zero, List.set_cons_succ, List.getElem_toArray, List.getElem_cons_succ, List.getElem_cons_zero]
                    refine wpAnyH_ready (rs := [4]) (by kernel_rfl) (by simp) ?_
                    refine AllReadyH.cons rfl (fun K hK => ?_) AllReadyH.nil
                    go_simp
                    go_wp2_with fail; refine (unhide HIH _ (by first | exact unhide HON | exact (unhide HON).drew)).mono ?_; rintro e w7 ⟨it, dv, kv2, rfl, hit, hsm, hct, o7d⟩; have o7 : Only (fun _ => False) wr w7 := by first | exact o7d | exact ((Only.refl _ _).drew).trans o7d (fun _ _ e => e)
                    refine hK.out _ _ (trivial) (fun hHeld => ?_)
                    clear hK K
                    try simp only [Act.put, List.setIfInBounds_toArray, List.set_cons_zero, List.set_cons_succ, List.getElem_toArray, List.getElem_cons_succ, List.getElem_cons_zero]
                    have d7 := o7.cell d4 (fun e => e)
                    have hit7 : ItAt (fun j => wr.heap.size ≤ j) w7 (n + 1) it dv kv2 := hit
                    obtain ⟨⟨da, dc, hds⟩, ka, kc, hks⟩ := hit7.shapes
                    subst hds
                    subst hks
                    have HIT := hide hit7
                    have HSM := hide hsm
                    have HCT := hide hct
                    have HO7 := hide o7
                    have hB7 := o7.heap (unhide HT).blk (fun e => e)
                    have HB7 := hide hB7
                    obtain ⟨zs, hzs, ownz, eachz⟩ := ((unhide HT).row.same o7).own
                    have hzl : zs.length = acc.length := by rw [← hzs, List.length_map]
                    rw [← hzl] at ownz
                    have HOW := hide ownz
                    have HEA := hide eachz
                    have HZS := hide hzs
                    have hzb : zs.length ≤ 31 := by omega
                    have d7z : w7.cell? ⟨ib, 4, none⟩ = some (.slice vo zs.length vc) := by rw [hzl]; exact d7
                    have hs7 := o7.size
                    have hsc := (unhide HT).only.size
                    clear hit hit7 hsm hct o7d hzs ownz eachz hB7
                    refine wpAnyH_ready (rs := [5]) (by kernel_rfl) (by simp) ?_
                    refine AllReadyH.cons rfl (fun K hK => ?_) AllReadyH.nil
                    go_simp
                    refine hK.out _ _ (trivial) (fun hHeld => ?_)
                    clear hK K
                    try simp only [Act.put, List.setIfInBounds_toArray, List.set_cons_zero, List.set_cons_succ, List.getElem_toArray, List.getElem_cons_succ, List.getElem_cons_zero]
                    have HB8 : Hid ((w7.alloc (.cells #[.int .i64 it.tag, .int .i64 it.typ, .int .i64 it.int, .slice da it.data.length dc, .slice ka it.kids.length kc] 25)).heap[ib]? = _) := ((Only.refl (fun _ => False) w7).alloc _).heap (unhide HB7) (fun e => e)
                    have hHt : zs.length = acc.length := hzl
                    refine wpAnyH_ready (rs := [6]) (by kernel_rfl) (by simp) ?_
                    refine AllReadyH.cons rfl (fun K hK => ?_) AllReadyH.nil
                    refine step_append_lies _ rfl (.tmp 53) (.tmp 57) 23 rfl wb.heap.size 25 i0 _ 5 72 Tryd.underlying23 hi0 hz0 hz1 hz2 rfl (by decide) _ zs.length (zs.flatMap zi) (by first | rfl | (show Value.slice vo acc.length vc = Value.slice vo zs.length vc; rw [hHt])) ((unhide HOW).alloc _) ⟨w7.heap.size, 0, none⟩ 1 1 (zi (it, .slice da it.data.length dc, .slice ka it.kids.length kc)) rfl rfl (World.news_of_block (heap_alloc_new w7 _)) (by simp [zi, Value.oneCell']) (by decide) (by unfold maxLen; omega) (by omega) (by simp; omega) (w7.heap.size + 1) (by simp) ?_; intro g cap w9 own9 gr9 at9 lt9
                    refine hK.out _ _ (trivial) (fun hHeld => ?_)
                    clear hK K
                    try simp only [Act.put, List.setIfInBounds_toArray, List.set_cons_zero, List.set_cons_succ, List.getElem_toArray, List.getElem_cons_succ, List.getElem_cons_zero]
                    have hP := RowI.pushed (Q := fun j => wb.heap.size ≤ j) (n := n + 1) (z := (it, .slice da it.data.length dc, .slice ka it.kids.length kc)) (unhide HOW) (by rw [hzl]; exact unhide HEA) (ItAt.mono (fun j hj (hq : wr.heap.size ≤ j) => ⟨by omega, fun e => by have := ((unhide HT).row.lt j (by rw [← hzl]; exact e)).2; omega⟩) (n + 1) (unhide HIT)) ((Only.refl _ w7).alloc (.cells #[.int .i64 it.tag, .int .i64 it.typ, .int .i64 it.int, .slice da it.data.length dc, .slice ka it.kids.length kc] 25)) own9 gr9 (by rcases at9 with e | e; exact Or.inl e; exact Or.inr (by rw [e]; simp))
                    rw [unhide HZS] at hP
                    have hB9 := hP.2.heap (unhide HB7) (fun e => by have := ((unhide HT).row.lt ib (by rw [← hzl]; exact e)).1; omega)
                    obtain ⟨f0, f1, f2, f3, f4, ff⟩ := two_5 hB9
                    refine wpAnyH_take (i := 7) (v := ?v16) rfl (by kernel_rfl) (by kernel_rfl) (by kernel_rfl) (fun _ _ _ h => h) (Or.inl ⟨by rfl, ?hy16⟩) (by assumption) ?rest16
                    case hy16 =>
                      intro w hSw
                      go_simp
                      try with_reducible rfl
                    try simp only [Act.put, List.setIfInBounds_toArray, List.set_cons_zero, List.set_cons_succ, List.getElem_toArray, List.getElem_cons_succ, List.getElem_cons_zero]
                    have hB10 : (w9.setCell ⟨ib, 4, none⟩ (.slice (some ⟨g, 0, none⟩) (zs.length + 1) cap)).heap[ib]? = some (.cells #[.int .i64 (4325376 + (p : Int)), .int .i64 (1 + (q : Int)), .int .i64 0, .slice none 0 0, .slice (some ⟨g, 0, none⟩) (zs.length + 1) cap] 25 (0, 0)) := by
                      rw [two_setCell hB9]
                      rfl
                    have o10 : Only (fun j => j = ib) w9 (w9.setCell ⟨ib, 4, none⟩ (.slice (some ⟨g, 0, none⟩) (zs.length + 1) cap)) := (Only.refl _ _).here 4 _
                    refine wpAnyH_ready (rs := [8]) (by kernel_rfl) (by simp) ?_
                    refine AllReadyH.cons rfl (fun K hK => ?_) AllReadyH.nil
                    go_simp
                    refine hK.out _ _ (trivial) (fun hHeld => ?_)
                    clear hK K
                    try simp only [Act.put, List.setIfInBounds_toArray, List.set_cons_zero, List.set_cons_succ, List.getElem_toArray, List.getElem_cons_succ, List.getElem_cons_zero]
                    refine wpAnyH_done (by kernel_rfl) ?_ _
                    have HNX : Hid (TLoop wb (w9.setCell ⟨ib, 4, none⟩ (.slice (some ⟨g, 0, none⟩) (zs.length + 1) cap)) ib n (4325376 + (p : Int)) (1 + (q : Int)) (.slice (some ⟨g, 0, none⟩) (zs.length + 1) cap) (acc ++ [it])) := by
                      refine ⟨hB10, hP.1.later o10 (fun j hj hq e => by have h : j = ib := e; omega) (fun j hj e => by have h : j = ib := e; have := (hP.1.lt j hj).1; omega), ?_, ?_⟩
                      · rw [smallAll_iff]
                        intro x hx
                        rcases List.mem_append.1 hx with hx | hx
                        · exact (smallAll_iff 32 acc).1 (unhide HT).small x hx
                        · rw [List.mem_singleton.1 hx]
                          exact unhide HSM
                      · exact (((unhide HT).only.trans (unhide HO7) (fun _ _ e => e.elim)).trans hP.2 (fun j hj e => by have := ((unhide HT).row.lt j (by rw [← hzl]; exact e)).1; omega)).trans o10 (fun _ _ e => e)
                    have HCN1 : Hid (It.countAll (acc ++ [it]) ≤ kidSum pf pk (cnt pf (min m 30) n) (k + 1)) := by
                      show _ ≤ _
                      rw [kidSum_succ, if_pos ⟨hik, unhide HPFK⟩, countAll_append]
                      have h1 := unhide HCN
                      have h2 := unhide HCT
                      rw [← unhide HPF] at h2
                      simp only [It.countAll]
                      omega
                    rw [hzl] at HNX
                    clear hP hB9 hB10 o10 f0 f1 f2 f3 f4 ff d4 d7 d7z hHeld own9 gr9 at9 HOW HEA HIT HB7 HB8
                    go_wp2
                    go_roundw
                    case rel => exact ⟨k + 1, acc ++ [it], _, by omega, by omega, by omega, by simp; omega, by go_num, by simp, unhide HNX, unhide HCN1⟩
                    case measure => simp [intOf]; omega
                  · skip
                    go_simp
                    go_wp2_with fail; refine (unhide HIH _ (by first | exact unhide HON | exact (unhide HON).drew)).mono ?_; rintro e w7 ⟨it, dv, kv2, rfl, hit, hsm, hct, o7d⟩; have o7 : Only (fun _ => False) wr w7 := by first | exact o7d | exact ((Only.refl _ _).drew).trans o7d (fun _ _ e => e)
                    refine hK.out _ _ (trivial) (fun hHeld => ?_)
                    clear hK K
                    try simp only [Act.put, List.setIfInBounds_toArray, List.set_cons_zero, List.set_cons_succ, List.getElem_toArray, List.getElem_cons_succ, List.getElem_cons_zero]
                    have d7 := o7.cell d4 (fun e => e)
                    have hit7 : ItAt (fun j => wr.heap.size ≤ j) w7 (n + 1) it dv kv2 := hit
                    obtain ⟨⟨da, dc, hds⟩, ka, kc, hks⟩ := hit7.shapes
                    subst hds
                    subst hks
                    have HIT := hide hit7
                    have HSM := hide hsm
                    have HCT := hide hct
                    have HO7 := hide o7
                    have hB7 := o7.heap (unhide HT).blk (fun e => e)
                    have HB7 := hide hB7
                    obtain ⟨zs, hzs, ownz, eachz⟩ := ((unhide HT).row.same o7).own
                    have hzl : zs.length = acc.length := by rw [← hzs, List.length_map]
                    rw [← hzl] at ownz
                    have HOW := hide ownz
                    have HEA := hide eachz
                    have HZS := hide hzs
                    have hzb : zs.length ≤ 31 := by omega
                    have d7z : w7.cell? ⟨ib, 4, none⟩ = some (.slice vo zs.length vc) := by rw [hzl]; exact d7
                    have hs7 := o7.size
                    have hsc := (unhide HT).only.size
                    clear hit hit7 hsm hct o7d hzs ownz eachz hB7
                    refine wpAnyH_ready (rs := [1, 5]) (by kernel_rfl) (by simp) ?_
                    refine (AllReadyH.cons rfl (fun K hK => ?_) (AllReadyH.cons rfl (fun K hK => ?_) AllReadyH.nil))
                    · skip
                      go_simp
                      refine hK.out _ _ (trivial) (fun hHeld => ?_)
                      clear hK K
                      try simp only [Act.put, List.setIfInBounds_toArray, List.set_cons_zero, List.set_cons_succ, List.getElem_toArray, List.getElem_cons_succ, List.getElem_cons_zero]
                      refine wpAnyH_ready (rs := [5]) (by kernel_rfl) (by simp) ?_
                      refine AllReadyH.cons rfl (fun K hK => ?_) AllReadyH.nil
                      go_simp
                      refine hK.out _ _ (trivial) (fun hHeld => ?_)
                      clear hK K
                      try simp only [Act.put, List.setIfInBounds_toArray, List.set_cons_zero, List.set_cons_succ, List.getElem_toArray, List.getElem_cons_succ, List.getElem_cons_zero]
                      have HB8 : Hid ((w7.alloc (.cells #[.int .i64 it.tag, .int .i64 it.typ, .int .i64 it.int, .slice da it.data.length dc, .slice ka it.kids.length kc] 25)).heap[ib]? = _) := ((Only.refl (fun _ => False) w7).alloc _).heap (unhide HB7) (fun e => e)
                      have hHt : zs.length = acc.length := hzl
                      refine wpAnyH_ready (rs := [6]) (by kernel_rfl) (by simp) ?_
                      refine AllReadyH.cons rfl (fun K hK => ?_) AllReadyH.nil
                      refine step_append_lies _ rfl (.tmp 53) (.tmp 57) 23 rfl wb.heap.size 25 i0 _ 5 72 Tryd.underlying23 hi0 hz0 hz1 hz2 rfl (by decide) _ zs.length (zs.flatMap zi) (by first | rfl | (show Value.slice vo acc.length vc = Value.slice vo zs.length vc; rw [hHt])) ((unhide HOW).alloc _) ⟨w7.heap.size, 0, none⟩ 1 1 (zi (it, .slice da it.data.length dc, .slice ka it.kids.length kc)) rfl rfl (World.news_of_block (heap_alloc_new w7 _)) (by simp [zi, Value.oneCell']) (by decide) (by unfold maxLen; omega) (by omega) (by simp; omega) (w7.heap.size + 1) (by simp) ?_; intro g cap w9 own9 gr9 at9 lt9
                      refine hK.out _ _ (trivial) (fun hHeld => ?_)
                      clear hK K
                      try simp only [Act.put, List.setIfInBounds_toArray, List.set_cons_zero, List.set_cons_succ, List.getElem_toArray, List.getElem_cons_succ, List.getElem_cons_zero]
                      have hP := RowI.pushed (Q := fun j => wb.heap.size ≤ j) (n := n + 1) (z := (it, .slice da it.data.length dc, .slice ka it.kids.length kc)) (unhide HOW) (by rw [hzl]; exact unhide HEA) (ItAt.mono (fun j hj (hq : wr.heap.size ≤ j) => ⟨by omega, fun e => by have := ((unhide HT).row.lt j (by rw [← hzl]; exact e)).2; omega⟩) (n + 1) (unhide HIT)) ((Only.refl _ w7).alloc (.cells #[.int .i64 it.tag, .int .i64 it.typ, .int .i64 it.int, .slice da it.data.length dc, .slice ka it.kids.length kc] 25)) own9 gr9 (by rcases at9 with e | e; exact Or.inl e; exact Or.inr (by rw [e]; simp))
                      rw [unhide HZS] at hP
                      have hB9 := hP.2.heap (unhide HB7) (fun e => by have := ((unhide HT).row.lt ib (by rw [← hzl]; exact e)).1; omega)
                      obtain ⟨f0, f1, f2, f3, f4, ff⟩ := two_5 hB9
                      refine wpAnyH_take (i := 7) (v := ?v17) rfl (by kernel_rfl) (by kernel_rfl) (by kernel_rfl) (fun _ _ _ h => h) (Or.inl ⟨by rfl, ?hy17⟩) (by assumption) ?rest17
                      case hy17 =>
                        intro w hSw
                        go_simp
                        try with_reducible rfl
                      try simp only [Act.put, List.setIfInBounds_toArray, List.set_cons_zero, List.set_cons_succ, List.getElem_toArray, List.getElem_cons_succ, List.getElem_cons_zero]
                      have hB10 : (w9.setCell ⟨ib, 4, none⟩ (.slice (some ⟨g, 0, none⟩) (zs.length + 1) cap)).heap[ib]? = some (.cells #[.int .i64 (4325376 + (p : Int)), .int .i64 (1 + (q : Int)), .int .i64 0, .slice none 0 0, .slice (some ⟨g, 0, none⟩) (zs.length + 1) cap] 25 (0, 0)) := by
                        rw [two_setCell hB9]
                        rfl
                      have o10 : Only (fun j => j = ib) w9 (w9.setCell ⟨ib, 4, none⟩ (.slice (some ⟨g, 0, none⟩) (zs.length + 1) cap)) := (Only.refl _ _).here 4 _
                      refine wpAnyH_ready (rs := [8]) (by kernel_rfl) (by simp) ?_
                      refine AllReadyH.cons rfl (fun K hK => ?_) AllReadyH.nil
                      go_simp
                      refine hK.out _ _ (trivial) (fun hHeld => ?_)
                      clear hK K
                      try simp only [Act.put, List.setIfInBounds_toArray, List.set_cons_zero, List.set_cons_succ, List.getElem_toArray, List.getElem_cons_succ, List.getElem_cons_zero]
                      refine wpAnyH_done (by kernel_rfl) ?_ _
                      have HNX : Hid (TLoop wb (w9.setCell ⟨ib, 4, none⟩ (.slice (some ⟨g, 0, none⟩) (zs.length + 1) cap)) ib n (4325376 + (p : Int)) (1 + (q : Int)) (.slice (some ⟨g, 0, none⟩) (zs.length + 1) cap) (acc ++ [it])) := by
                        refine ⟨hB10, hP.1.later o10 (fun j hj hq e => by have h : j = ib := e; omega) (fun j hj e => by have h : j = ib := e; have := (hP.1.lt j hj).1; omega), ?_, ?_⟩
                        · rw [smallAll_iff]
                          intro x hx
                          rcases List.mem_append.1 hx with hx | hx
                          · exact (smallAll_iff 32 acc).1 (unhide HT).small x hx
                          · rw [List.mem_singleton.1 hx]
                            exact unhide HSM
                        · exact (((unhide HT).only.trans (unhide HO7) (fun _ _ e => e.elim)).trans hP.2 (fun j hj e => by have := ((unhide HT).row.lt j (by rw [← hzl]; exact e)).1; omega)).trans o10 (fun _ _ e => e)
                      have HCN1 : Hid (It.countAll (acc ++ [it]) ≤ kidSum pf pk (cnt pf (min m 30) n) (k + 1)) := by
                        show _ ≤ _
                        rw [kidSum_succ, if_pos ⟨hik, unhide HPFK⟩, countAll_append]
                        have h1 := unhide HCN
                        have h2 := unhide HCT
                        rw [← unhide HPF] at h2
                        simp only [It.countAll]
                        omega
                      rw [hzl] at HNX
                      clear hP hB9 hB10 o10 f0 f1 f2 f3 f4 ff d4 d7 d7z hHeld own9 gr9 at9 HOW HEA HIT HB7 HB8
                      go_wp2
                      go_roundw
                      case rel => exact ⟨k + 1, acc ++ [it], _, by omega, by omega, by omega, by simp; omega, by go_num, by simp, unhide HNX, unhide HCN1⟩
                      case measure => simp [intOf]; omega
                    · skip
                      go_simp
                      refine hK.out _ _ (trivial) (fun hHeld => ?_)
                      clear hK K
                      try simp only [Act.put, List.setIfInBounds_toArray, List.set_cons_zero, List.set_cons_succ, List.getElem_toArray, List.getElem_cons_succ, List.getElem_cons_zero]
                      have d8 : (w7.alloc (.cells #[.int .i64 it.tag, .int .i64 it.typ, .int .i64 it.int, .slice da it.data.length dc, .slice ka it.kids.length kc] 25)).cell? ⟨ib, 4, none⟩ = some (.slice vo zs.length vc) := ((Only.refl (fun _ => False) w7).alloc _).cell d7z (fun e => e)
                      refine wpAnyH_ready (rs := [1]) (by kernel_rfl) (by simp) ?_
                      refine AllReadyH.cons rfl (fun K hK => ?_) AllReadyH.nil
                      go_simp
                      refine hK.out _ _ (trivial) (fun hHeld => ?_)
                      clear hK K
                      try simp only [Act.put, List.setIfInBounds_toArray, List.set_cons_zero, List.set_cons_succ, List.getElem_toArray, List.getElem_cons_succ, List.getElem_cons_zero]
                      have HB8 : Hid ((w7.alloc (.cells #[.int .i64 it.tag, .int .i64 it.typ, .int .i64 it.int, .slice da it.data.length dc, .slice ka it.kids.length kc] 25)).heap[ib]? = _) := ((Only.refl (fun _ => False) w7).alloc _).heap (unhide HB7) (fun e => e)
                      have hHt : zs.length = acc.length := hzl
                      refine wpAnyH_ready (rs := [6]) (by kernel_rfl) (by simp) ?_
                      refine AllReadyH.cons rfl (fun K hK => ?_) AllReadyH.nil
                      refine step_append_lies _ rfl (.tmp 53) (.tmp 57) 23 rfl wb.heap.size 25 i0 _ 5 72 Tryd.underlying23 hi0 hz0 hz1 hz2 rfl (by decide) _ zs.length (zs.flatMap zi) (by first | rfl | (show Value.slice vo acc.length vc = Value.slice vo zs.length vc; rw [hHt])) ((unhide HOW).alloc _) ⟨w7.heap.size, 0, none⟩ 1 1 (zi (it, .slice da it.data.length dc, .slice ka it.kids.length kc)) rfl rfl (World.news_of_block (heap_alloc_new w7 _)) (by simp [zi, Value.oneCell']) (by decide) (by unfold maxLen; omega) (by omega) (by simp; omega) (w7.heap.size + 1) (by simp) ?_; intro g cap w9 own9 gr9 at9 lt9
                      refine hK.out _ _ (trivial) (fun hHeld => ?_)
                      clear hK K
                      try simp only [Act.put, List.setIfInBounds_toArray, List.set_cons_zero, List.set_cons_succ, List.getElem_toArray, List.getElem_cons_succ, List.getElem_cons_zero]
                      have hP := RowI.pushed (Q := fun j => wb.heap.size ≤ j) (n := n + 1) (z := (it, .slice da it.data.length dc, .slice ka it.kids.length kc)) (unhide HOW) (by rw [hzl]; exact unhide HEA) (ItAt.mono (fun j hj (hq : wr.heap.size ≤ j) => ⟨by omega, fun e => by have := ((unhide HT).row.lt j (by rw [← hzl]; exact e)).2; omega⟩) (n + 1) (unhide HIT)) ((Only.refl _ w7).alloc (.cells #[.int .i64 it.tag, .int .i64 it.typ, .int .i64 it.int, .slice da it.data.length dc, .slice ka it.kids.length kc] 25)) own9 gr9 (by rcases at9 with e | e; exact Or.inl e; exact Or.inr (by rw [e]; simp))
                      rw [unhide HZS] at hP
                      have hB9 := hP.2.heap (unhide HB7) (fun e => by have := ((unhide HT).row.lt ib (by rw [← hzl]; exact e)).1; omega)
                      obtain ⟨f0, f1, f2, f3, f4, ff⟩ := two_5 hB9
                      refine wpAnyH_take (i := 7) (v := ?v18) rfl (by kernel_rfl) (by kernel_rfl) (by kernel_rfl) (fun _ _ _ h => h) (Or.inl ⟨by rfl, ?hy18⟩) (by assumption) ?rest18
                      case hy18 =>
                        intro w hSw
                        go_simp
                        try with_reducible rfl
                      try simp only [Act.put, List.setIfInBounds_toArray, List.set_cons_zero, List.set_cons_succ, List.getElem_toArray, List.getElem_cons_succ, List.getElem_cons_zero]
                      have hB10 : (w9.setCell ⟨ib, 4, none⟩ (.slice (some ⟨g, 0, none⟩) (zs.length + 1) cap)).heap[ib]? = some (.cells #[.int .i64 (4325376 + (p : Int)), .int .i64 (1 + (q : Int)), .int .i64 0, .slice none 0 0, .slice (some ⟨g, 0, none⟩) (zs.length + 1) cap] 25 (0, 0)) := by
                        rw [two_setCell hB9]
                        rfl
                      have o10 : Only (fun j => j = ib) w9 (w9.setCell ⟨ib, 4, none⟩ (.slice (some ⟨g, 0, none⟩) (zs.length + 1) cap)) := (Only.refl _ _).here 4 _
                      refine wpAnyH_ready (rs := [8]) (by kernel_rfl) (by simp) ?_
                      refine AllReadyH.cons rfl (fun K hK => ?_) AllReadyH.nil
                      go_simp
                      refine hK.out _ _ (trivial) (fun hHeld => ?_)
                      clear hK K
                      try simp only [Act.put, List.setIfInBounds_toArray, List.set_cons_zero, List.set_cons_succ, List.getElem_toArray, List.getElem_cons_succ, List.getElem_cons_zero]
                      refine wpAnyH_done (by kernel_rfl) ?_ _
                      have HNX : Hid (TLoop wb (w9.setCell ⟨ib, 4, none⟩ (.slice (some ⟨g, 0, none⟩) (zs.length + 1) cap)) ib n (4325376 + (p : Int)) (1 + (q : Int)) (.slice (some ⟨g, 0, none⟩) (zs.length + 1) cap) (acc ++ [it])) := by
                        refine ⟨hB10, hP.1.later o10 (fun j hj hq e => by have h : j = ib := e; omega) (fun j hj e => by have h : j = ib := e; have := (hP.1.lt j hj).1; omega), ?_, ?_⟩
                        · rw [smallAll_iff]
                          intro x hx
                          rcases List.mem_append.1 hx with hx | hx
                          · exact (smallAll_iff 32 acc).1 (unhide HT).small x hx
                          · rw [List.mem_singleton.1 hx]
                            exact unhide HSM
                        · exact (((unhide HT).only.trans (unhide HO7) (fun _ _ e => e.elim)).trans hP.2 (fun j hj e => by have := ((unhide HT).row.lt j (by rw [← hzl]; exact e)).1; omega)).trans o10 (fun _ _ e => e)
                      have HCN1 : Hid (It.countAll (acc ++ [it]) ≤ kidSum pf pk (cnt pf (min m 30) n) (k + 1)) := by
                        show _ ≤ _
                        rw [kidSum_succ, if_pos ⟨hik, unhide HPFK⟩, countAll_append]
                        have h1 := unhide HCN
                        have h2 := unhide HCT
                        rw [← unhide HPF] at h2
                        simp only [It.countAll]
                        omega
                      rw [hzl] at HNX
                      clear hP hB9 hB10 o10 f0 f1 f2 f3 f4 ff d4 d7 d7z hHeld own9 gr9 at9 HOW HEA HIT HB7 HB8
                      go_wp2
                      go_roundw
                      case rel => exact ⟨k + 1, acc ++ [it], _, by omega, by omega, by omega, by simp; omega, by go_num, by simp, unhide HNX, unhide HCN1⟩
                      case measure => simp [intOf]; omega
                  -- END 11
                · have HNE : Hid (((pk : Int) == (i : Int)) = false) := by show _ = _; rw [beq_eq_false_iff_ne]; omega
                  have HCN1 : Hid (It.countAll acc ≤ kidSum pf i (cnt pf (min m 30) n) (k + 1)) := by
                    show _ ≤ _
                    rw [kidSum_succ, if_neg (by rw [unhide HPFK]; omega)]
                    exact unhide HCN
                  clear hpi
                  go_upto_if 51 with fail
                  rw [unhide HNE]
                  go_wp2
                  go_roundw
                  case rel => exact ⟨k + 1, acc, kv, by omega, by omega, by omega, by omega, by go_num, rfl, unhide HT, unhide HCN1⟩
                  case measure => simp [intOf]; omega
              · have hli : (k : Int) < m := by omega
                have hk30' : (k : Int) = 30 := by omega
                have HEND : Hid (It.countAll acc ≤ kidSum pf i (cnt pf (min m 30) n) (min m 30)) := by
                  show _ ≤ _
                  rw [show min m 30 = k by omega]
                  have h := unhide HCN
                  rwa [show min m 30 = k by omega] at h
                rw [hk30'] at hli
                rw [hk30']
                clear hk30' hl30
                go_wp2_with fail
                go_meet
                case rel => exact ⟨acc, kv, rfl, unhide HT, unhide HEND⟩
            · have hli : ¬ (k : Int) < m := by omega
              have HEND : Hid (It.countAll acc ≤ kidSum pf i (cnt pf (min m 30) n) (min m 30)) := by
                show _ ≤ _
                rw [show min m 30 = k by omega]
                have h := unhide HCN
                rwa [show min m 30 = k by omega] at h
              go_wp2_with fail
              go_meet
              case rel => exact ⟨acc, kv, rfl, unhide HT, unhide HEND⟩
        case rest =>
          obtain ⟨acc, kv, rfl, hT, hcnt⟩ := hcut
          have HT := hide hT
          have HCN := hide hcnt
          have hbw2 : ib < wb.heap.size := hibw
          obtain ⟨kvo, kvc, hkvs⟩ := hT.row.shape
          subst hkvs
          obtain ⟨d0, d1, d2, d3, d4, df⟩ := two_5 hT.blk
          clear hT hcnt HL0 HK0
          go_upto_if 60 with fail
          go_cut [7, 60, 61] (fun _ _ _ wx => ∃ y, 1 ≤ y ∧ y ≤ 10 ∧ TLoop wb wx ib n (4325376 + (p : Int)) y (.slice kvo acc.length kvc) acc)
          case first =>
            by_cases hacc : acc = []
            · have hae : acc.isEmpty = true := by simp [hacc]
              rw [hae, Bool.not_true]
              clear hacc hae
              go_wp2_with fail
              go_meet
              case rel => exact ⟨1 + (q : Int), by omega, by omega, unhide HT⟩
            · have hae : acc.isEmpty = false := by simp [hacc]
              rw [hae, Bool.not_false]
              clear hacc hae
              have hB2 : (wc.setCell ⟨ib, 1, none⟩ (.int .i64 1)).heap[ib]? = some (.cells #[.int .i64 (4325376 + (p : Int)), .int .i64 1, .int .i64 0, .slice none 0 0, .slice kvo acc.length kvc] 25 (0, 0)) := by
                rw [two_setCell (unhide HT).blk]
                rfl
              have o2 : Only (fun j => j = ib) wc (wc.setCell ⟨ib, 1, none⟩ (.int .i64 1)) := (Only.refl _ _).here 1 _
              have HT2 : Hid (TLoop wb (wc.setCell ⟨ib, 1, none⟩ (.int .i64 1)) ib n (4325376 + (p : Int)) 1 (.slice kvo acc.length kvc) acc) := ⟨hB2, (unhide HT).row.later o2 (fun j hj hq e => by have h : j = ib := e; omega) (fun j hj e => by have h : j = ib := e; have := ((unhide HT).row.lt j hj).1; omega), (unhide HT).small, (unhide HT).only.trans o2 (fun _ _ e => e)⟩
              clear hB2 o2
              go_wp2_with fail
              go_meet
              case rel => exact ⟨1, by omega, by omega, unhide HT2⟩
          case rest =>
            obtain ⟨y, hy1, hy2, hT⟩ := hcut
            have HT := hide hT
            obtain ⟨d0, d1, d2, d3, d4, df⟩ := two_5 hT.blk
            have hXw := hT.only.heap (unhide HXc) (fun e => by have h : w.heap.size + 1 = ib := e; omega)
            have HXw := hide hXw
            obtain ⟨c0, c1, c2, c3, c4, c5⟩ := two_6 hXw
            have HY := hide (And.intro hy1 hy2)
            clear hT hXw hy1 hy2
            have hBI := (unhide HT).blk
            have HSA := hide (unhide HT).small
            have HONw : Hid (Only (fun _ => False) w wc) := (unhide HOc).trans (unhide HT).only (fun j hj e => by have h : j = ib := e; omega)
            have HDW : Hid (Has wc (.slice dvo r.data.length dvc) r.data) := by
              have h := (unhide HRK).data
              rw [unhide HDV] at h
              exact h.only (unhide HONw) (fun _ _ _ e => e)
            have HMID := hide ((unhide HT).mid ⟨by omega, by omega⟩ (by have := unhide HY; exact ⟨by omega, by omega⟩))
            have hrn := (unhide HRK).num
            unfold W64 at hrn
            go_upto_block 2 with fail
            go_cut [68] (fun _ wx => TMid wb wx ib n (.slice kvo acc.length kvc) acc)
            case first =>
              obtain ⟨hy1, hy2⟩ := unhide HY
              have hys : y = 1 ∨ y = 2 ∨ y = 3 ∨ y = 4 ∨ y = 5 ∨ y = 6 ∨ y = 7 ∨ y = 8 ∨ y = 9 ∨ y = 10 := by omega
              clear HY
              rcases hys with rfl | rfl | rfl | rfl | rfl | rfl | rfl | rfl | rfl | rfl
              · clear hy1 hy2
                go_wp2_with fail
                go_meet
                case rel => exact unhide HMID
              · clear hy1 hy2
                go_wp2_with fail
                go_meet
                case rel => exact (unhide HMID).int hbw2 _ (w64_wrap _)
              · clear hy1 hy2
                go_wp2_with fail
                go_meet
                case rel => exact (unhide HMID).int hbw2 _ hrn
              · clear hy1 hy2
                obtain ⟨j0, hj, hy0, hy1', hy2'⟩ := info_parts Tryd.info5
                obtain ⟨oq, hoq⟩ := Int.eq_ofNat_of_zero_le (Int.emod_nonneg r.odd (by decide : (2 : Int) ≠ 0))
                have HOQ := hide hoq
                have hoq2 := Int.emod_lt_of_pos r.odd (by decide : (0 : Int) < 2)
                rw [hoq] at hoq2
                clear hoq
                have HW1 : Hid (IntKind.i64.wrap (8 * (oq : Int)) = 8 * (oq : Int)) := by show _ = _; rw [IntKind.wrap_i64]; omega
                have HW2 : Hid (IntKind.i64.wrap (8 + 8 * (oq : Int)) = ((8 + 8 * oq : Nat) : Int)) := by show _ = _; rw [IntKind.wrap_i64]; omega
                go_wp2_with fail
                refine wp_region_held_drew (S := (fun w' => w'.cell? ⟨w.heap.size + 1, 4, none⟩ = some (.slice dvo r.data.length dvc) ∧ w'.cell? ⟨w.heap.size + 1, 5, none⟩ = some (.int .i64 r.odd))) (by kernel_rfl) (⟨c4, c5⟩) (fun hHeld => ?_)
                refine wpAnyH_take (i := 0) (v := ?v19) rfl (by kernel_rfl) (by kernel_rfl) (by kernel_rfl) (fun _ _ _ h => h) (Or.inl ⟨by rfl, ?hy19⟩) (by assumption) ?rest19
                case hy19 =>
                  intro w hSw
                  go_simp
                  try with_reducible rfl
                try simp only [Act.put, List.setIfInBounds_toArray, List.set_cons_zero, List.set_cons_succ, List.getElem_toArray, List.getElem_cons_succ, List.getElem_cons_zero]
                refine wpAnyH_take (i := 1) (v := ?v20) rfl (by kernel_rfl) (by kernel_rfl) (by kernel_rfl) (fun _ _ _ h => h) (Or.inl ⟨by rfl, ?hy20⟩) (by assumption) ?rest20
                case hy20 =>
                  intro w hSw
                  (obtain ⟨q0, q1⟩ := hSw; go_simp; try with_reducible rfl)
                try simp only [Act.put, List.setIfInBounds_toArray, List.set_cons_zero, List.set_cons_succ, List.getElem_toArray, List.getElem_cons_succ, List.getElem_cons_zero]
                refine wpAnyH_take (i := 4) (v := ?v21) rfl (by kernel_rfl) (by kernel_rfl) (by kernel_rfl) (fun _ _ _ h => h) (Or.inl ⟨by rfl, ?hy21⟩) (by assumption) ?rest21
                case hy21 =>
                  intro w hSw
                  go_simp
                  try with_reducible rfl
                try simp only [Act.put, List.setIfInBounds_toArray, List.set_cons_zero, List.set_cons_succ, List.getElem_toArray, List.getElem_cons_succ, List.getElem_cons_zero]
                refine wpAnyH_take (i := 5) (v := ?v22) rfl (by kernel_rfl) (by kernel_rfl) (by kernel_rfl) (fun _ _ _ h => h) (Or.inl ⟨by rfl, ?hy22⟩) (by assumption) ?rest22
                case hy22 =>
                  intro w hSw
                  (obtain ⟨q0, q1⟩ := hSw; go_simp; try with_reducible rfl)
                try simp only [Act.put, List.setIfInBounds_toArray, List.set_cons_zero, List.set_cons_succ, List.getElem_toArray, List.getElem_cons_succ, List.getElem_cons_zero]
                refine wpAnyH_ready (rs := [2]) (by kernel_rfl) (by simp) ?_
                refine AllReadyH.cons rfl (fun K hK => ?_) AllReadyH.nil
                go_simp
                go_wp2_with fail; refine (few_any _ r.data 16 _ ((unhide HDW).only ((Only.refl (fun _ => False) wc).drew) (fun _ _ _ e => e)) (Or.inr (by decide))).mono ?_; rintro e w2 ⟨u, rfl, hown, o2d⟩; have o2 : Only (fun _ => False) wc w2 := ((Only.refl _ _).drew).trans o2d (fun _ _ e => e)
                refine hK.out _ _ (⟨o2.cell c4 (fun e => e), o2.cell c5 (fun e => e)⟩) (fun hHeld => ?_)
                clear hK K
                try simp only [Act.put, List.setIfInBounds_toArray, List.set_cons_zero, List.set_cons_succ, List.getElem_toArray, List.getElem_cons_succ, List.getElem_cons_zero]
                have hul : (r.data.take 16).length ≤ 16 := by rw [List.length_take]; omega
                have hlt2 : ∀ k, u.ownBlock = some k → wc.heap.size ≤ k ∧ k < w2.heap.size := fun k hk => hown.out.lt k hk
                have HOWN : Hid (w2.ownsRow wc.heap.size 5 1 u (r.data.take 16).length ((r.data.take 16).map bv)) := hown.out
                obtain ⟨ud, hud⟩ : ∃ ud, ud = r.data.take 16 := ⟨_, rfl⟩
                rw [← hud] at hul HOWN
                obtain ⟨ua, uc, hus⟩ := ownsRow_shape (unhide HOWN)
                subst hus
                have HO2 := hide o2
                clear hown o2d hud
                refine wpAnyH_ready (rs := [3]) (by kernel_rfl) (by simp) ?_
                refine AllReadyH.cons rfl (fun K hK => ?_) AllReadyH.nil
                refine step_zeros rfl (.tmp 101) (.const (.int .i64 16)) 22 3 rfl wc.heap.size 5 j0 Tryd.underlying22 Tryd.underlying3 hj hy0 hy1' hy2' _ ud.length (ud.map bv) rfl (unhide HOWN) rfl (by omega) (unhide HO2).size ?_; intro za zc w3 own3 gr3; have o3 : Only (fun _ => False) wc w3 := (fun (h : Only (fun k => wc.heap.size ≤ k) wc w3) => (⟨h.os, h.tape, h.output, h.size, fun k hk _ => h.block k hk (fun e => by have e' : wc.heap.size ≤ k := e; omega)⟩ : Only (fun _ => False) wc w3)) (((unhide HO2).mono (T := fun k => wc.heap.size ≤ k) (fun _ _ e => e.elim)).grown gr3 (fun k hk _ => (hlt2 k hk).1))
                refine hK.out _ _ (⟨o3.cell c4 (fun e => e), o3.cell c5 (fun e => e)⟩) (fun hHeld => ?_)
                clear hK K
                try simp only [Act.put, List.setIfInBounds_toArray, List.set_cons_zero, List.set_cons_succ, List.getElem_toArray, List.getElem_cons_succ, List.getElem_cons_zero]
                have hZ : Has w3 (.slice za (ud.length + 16) zc) (ud ++ List.replicate 16 (0 : UInt8)) := by
                  have h : w3.ownsRow wc.heap.size 5 1 (.slice za (ud.length + 16) zc) (ud.length + 16) ((ud ++ List.replicate 16 (0 : UInt8)).map bv) := by
                    rw [List.map_append, ← zs16_bytes]
                    exact own3
                  exact Has.ofOwns h
                have hzl := own3.lt
                have hcap : ud.length + 16 ≤ zc := by
                  obtain ⟨_, _, e, h1, _⟩ := hZ.shape
                  rw [Value.slice.injEq] at e
                  simp at h1 e
                  omega
                have hlen16 : (ud ++ List.replicate 16 (0 : UInt8)).length = ud.length + 16 := by simp
                have HZF := hide (hZ.front (n := 8 + 8 * oq) (by rw [hlen16]; omega))
                have HZB : Hid (∀ k, blk (.slice za (8 + 8 * oq) zc) = some k → wc.heap.size ≤ k) := fun k hk => by
                  have h : (Value.slice za (ud.length + 16) zc).ownBlock = some k := by
                    cases za with
                    | none => cases hk
                    | some a => simpa [blk, Value.ownBlock] using hk
                  exact (hzl k h).1
                have hB3 := o3.heap hBI (fun e => e)
                obtain ⟨f0, f1, f2, f3, f4, ff⟩ := two_5 hB3
                have HM3 := hide ((unhide HMID).same o3)
                have hjc : ((8 + 8 * oq : Nat) : Int) ≤ zc := by omega
                have hs3 := (unhide HMID).only.size
                clear hZ own3 gr3 hlen16 hzl
                refine wpAnyH_ready (rs := [6]) (by kernel_rfl) (by simp) ?_
                refine AllReadyH.cons rfl (fun K hK => ?_) AllReadyH.nil
                go_simp
                go_wp2_with fail; refine (pick_any r.odd 2 _ (by decide) (by decide)).mono ?_; rintro e wx ⟨rfl, hwx⟩; rw [hwx, unhide HOQ]; clear hwx wx
                refine hK.out _ _ (⟨o3.cell c4 (fun e => e), o3.cell c5 (fun e => e)⟩) (fun hHeld => ?_)
                clear hK K
                try simp only [Act.put, List.setIfInBounds_toArray, List.set_cons_zero, List.set_cons_succ, List.getElem_toArray, List.getElem_cons_succ, List.getElem_cons_zero]
                refine wpAnyH_take (i := 7) (v := ?v23) rfl (by kernel_rfl) (by kernel_rfl) (by kernel_rfl) (fun _ _ _ h => h) (Or.inl ⟨by rfl, ?hy23⟩) (by assumption) ?rest23
                case hy23 =>
                  intro w hSw
                  go_simp
                  try with_reducible rfl
                try simp only [Act.put, List.setIfInBounds_toArray, List.set_cons_zero, List.set_cons_succ, List.getElem_toArray, List.getElem_cons_succ, List.getElem_cons_zero]
                rw [unhide HW1]
                refine wpAnyH_take (i := 8) (v := ?v24) rfl (by kernel_rfl) (by kernel_rfl) (by kernel_rfl) (fun _ _ _ h => h) (Or.inl ⟨by rfl, ?hy24⟩) (by assumption) ?rest24
                case hy24 =>
                  intro w hSw
                  go_simp
                  try with_reducible rfl
                try simp only [Act.put, List.setIfInBounds_toArray, List.set_cons_zero, List.set_cons_succ, List.getElem_toArray, List.getElem_cons_succ, List.getElem_cons_zero]
                rw [unhide HW2]
                have hdl : ((ud ++ List.replicate 16 (0 : UInt8)).take (8 + 8 * oq)).length ≤ 32 := by rw [List.length_take]; omega
                generalize (ud ++ List.replicate 16 (0 : UInt8)).take (8 + 8 * oq) = dd at *
                generalize 8 + 8 * oq = sl at *
                refine wpAnyH_take (i := 9) (v := ?v25) rfl (by kernel_rfl) (by kernel_rfl) (by kernel_rfl) (fun _ _ _ h => h) (Or.inl ⟨by rfl, ?hy25⟩) (by assumption) ?rest25
                case hy25 =>
                  intro w hSw
                  go_simp
                  try with_reducible rfl
                try simp only [Act.put, List.setIfInBounds_toArray, List.set_cons_zero, List.set_cons_succ, List.getElem_toArray, List.getElem_cons_succ, List.getElem_cons_zero]
                have o4 : Only (fun j => j = ib) w3 (w3.setCell ⟨ib, 3, none⟩ (.slice za sl zc)) := (Only.refl _ _).here 3 _
                have hxb : w.heap.size + 1 ≠ ib := by omega
                refine wpAnyH_take (i := 10) (v := ?v26) rfl (by kernel_rfl) (by kernel_rfl) (by kernel_rfl) (fun _ _ _ h => h) (Or.inl ⟨by rfl, ?hy26⟩) (by assumption) ?rest26
                case hy26 =>
                  intro w hSw
                  go_simp
                  try with_reducible rfl
                try simp only [Act.put, List.setIfInBounds_toArray, List.set_cons_zero, List.set_cons_succ, List.getElem_toArray, List.getElem_cons_succ, List.getElem_cons_zero]
                refine wpAnyH_ready (rs := [11]) (by kernel_rfl) (by simp) ?_
                refine AllReadyH.cons rfl (fun K hK => ?_) AllReadyH.nil
                go_simp
                refine hK.out _ _ (⟨o4.cell (o3.cell c4 (fun e => e)) hxb, o4.cell (o3.cell c5 (fun e => e)) hxb⟩) (fun hHeld => ?_)
                clear hK K
                try simp only [Act.put, List.setIfInBounds_toArray, List.set_cons_zero, List.set_cons_succ, List.getElem_toArray, List.getElem_cons_succ, List.getElem_cons_zero]
                refine wpAnyH_done (by kernel_rfl) ?_ _
                clear o4 hHeld f0 f1 f2 f3 f4 ff
                have HFIN := hide ((unhide HM3).dat hbw2 (.slice za sl zc) dd (unhide HZF) hdl (fun k hk => by have := unhide HZB k hk; omega))
                go_wp2
                go_meet
                case rel => exact unhide HFIN
              · clear hy1 hy2
                go_wp2_with fail
                go_meet
                case rel => exact (unhide HMID).int hbw2 _ (by unfold W64; omega)
              · clear hy1 hy2
                go_wp2_with fail
                go_meet
                case rel => exact (unhide HMID).int hbw2 _ (w64_of (wf_bits _ _ _ _))
              · skip
                clear hy1 hy2
                obtain ⟨oq, hoq⟩ := Int.eq_ofNat_of_zero_le (Int.emod_nonneg r.odd (by decide : (4 : Int) ≠ 0))
                have HOQ := hide hoq
                have hoq2 := Int.emod_lt_of_pos r.odd (by decide : (0 : Int) < 4)
                rw [hoq] at hoq2
                clear hoq
                have HPO := hide (pick_any r.odd 4 wc (by decide) (by decide))
                go_wp2_with fail
                refine (unhide HPO).mono ?_
                rintro e wc ⟨rfl, rfl⟩
                rw [unhide HOQ]
                have hoqs : oq = 0 ∨ oq = 1 ∨ oq = 2 ∨ oq = 3 := by omega
                rcases hoqs with rfl | rfl | rfl | rfl
                · clear hoq2
                  have hix := index_0
                  obtain ⟨ta, tc, w2, hrun, hh2, o2, hb2⟩ := conv_bytes [] (by unfold maxLen; decide) wc
                  have hrun' : (convert 9 22 (.string ⟨#[]⟩)).run Tryd.prog wc = .ok (.slice ta 0 tc) w2 := hrun
                  have hB2 := o2.heap hBI (fun e => e)
                  obtain ⟨f0, f1, f2, f3, f4, ff⟩ := two_5 hB2
                  have HM2 := hide ((unhide HMID).same o2)
                  have HU : Hid (Has w2 (.slice ta 0 tc) []) := hh2
                  have HUB : Hid (∀ j, blk (.slice ta 0 tc) = some j → wc.heap.size ≤ j) := hb2
                  have hs2 := (unhide HMID).only.size
                  clear hrun hh2 o2 hb2 hB2
                  go_wp2_with fail
                  go_meet
                  case rel => exact (unhide HM2).dat hbw2 _ _ (unhide HU) (by decide) (fun k hk => by have := unhide HUB k hk; omega)
                · clear hoq2
                  have hix := index_1
                  obtain ⟨ta, tc, w2, hrun, hh2, o2, hb2⟩ := conv_bytes [97, 98, 99] (by unfold maxLen; decide) wc
                  have hrun' : (convert 9 22 (.string ⟨#[97, 98, 99]⟩)).run Tryd.prog wc = .ok (.slice ta 3 tc) w2 := hrun
                  have hB2 := o2.heap hBI (fun e => e)
                  obtain ⟨f0, f1, f2, f3, f4, ff⟩ := two_5 hB2
                  have HM2 := hide ((unhide HMID).same o2)
                  have HU : Hid (Has w2 (.slice ta 3 tc) [97, 98, 99]) := hh2
                  have HUB : Hid (∀ j, blk (.slice ta 3 tc) = some j → wc.heap.size ≤ j) := hb2
                  have hs2 := (unhide HMID).only.size
                  clear hrun hh2 o2 hb2 hB2
                  go_wp2_with fail
                  go_meet
                  case rel => exact (unhide HM2).dat hbw2 _ _ (unhide HU) (by decide) (fun k hk => by have := unhide HUB k hk; omega)
                · clear hoq2
                  have hix := index_2
                  obtain ⟨ta, tc, w2, hrun, hh2, o2, hb2⟩ := conv_bytes [226, 130, 172] (by unfold maxLen; decide) wc
                  have hrun' : (convert 9 22 (.string ⟨#[226, 130, 172]⟩)).run Tryd.prog wc = .ok (.slice ta 3 tc) w2 := hrun
                  have hB2 := o2.heap hBI (fun e => e)
                  obtain ⟨f0, f1, f2, f3, f4, ff⟩ := two_5 hB2
                  have HM2 := hide ((unhide HMID).same o2)
                  have HU : Hid (Has w2 (.slice ta 3 tc) [226, 130, 172]) := hh2
                  have HUB : Hid (∀ j, blk (.slice ta 3 tc) = some j → wc.heap.size ≤ j) := hb2
                  have hs2 := (unhide HMID).only.size
                  clear hrun hh2 o2 hb2 hB2
                  go_wp2_with fail
                  go_meet
                  case rel => exact (unhide HM2).dat hbw2 _ _ (unhide HU) (by decide) (fun k hk => by have := unhide HUB k hk; omega)
                · clear hoq2
                  have hix := index_3
                  obtain ⟨ta, tc, w2, hrun, hh2, o2, hb2⟩ := conv_bytes [48, 49, 50, 51, 52, 53, 54, 55, 56, 57] (by unfold maxLen; decide) wc
                  have hrun' : (convert 9 22 (.string ⟨#[48, 49, 50, 51, 52, 53, 54, 55, 56, 57]⟩)).run Tryd.prog wc = .ok (.slice ta 10 tc) w2 := hrun
                  have hB2 := o2.heap hBI (fun e => e)
                  obtain ⟨f0, f1, f2, f3, f4, ff⟩ := two_5 hB2
                  have HM2 := hide ((unhide HMID).same o2)
                  have HU : Hid (Has w2 (.slice ta 10 tc) [48, 49, 50, 51, 52, 53, 54, 55, 56, 57]) := hh2
                  have HUB : Hid (∀ j, blk (.slice ta 10 tc) = some j → wc.heap.size ≤ j) := hb2
                  have hs2 := (unhide HMID).only.size
                  clear hrun hh2 o2 hb2 hB2
                  go_wp2_with fail
                  go_meet
                  case rel => exact (unhide HM2).dat hbw2 _ _ (unhide HU) (by decide) (fun k hk => by have := unhide HUB k hk; omega)
              · clear hy1 hy2
                have HFE := hide (few_any _ r.data 30 wc (unhide HDW) (Or.inr (by decide)))
                go_wp2_with fail
                refine (unhide HFE).mono ?_
                rintro e w2 ⟨u, rfl, hown, o2⟩
                have hB2 := o2.heap hBI (fun e => e)
                obtain ⟨f0, f1, f2, f3, f4, ff⟩ := two_5 hB2
                have HM2 := hide ((unhide HMID).same o2)
                have HU := hide (Has.ofOwns hown.out)
                have HUB := hide (owns_blk hown)
                have hs2 := (unhide HMID).only.size
                obtain ⟨ua, uc, hus, _⟩ := (unhide HU).shape
                have hul : (r.data.take 30).length ≤ 32 := by rw [List.length_take]; omega
                generalize r.data.take 30 = ud at *
                subst hus
                clear hown o2 hB2 HFE
                go_wp2_with fail
                go_meet
                case rel => exact (unhide HM2).dat hbw2 _ _ (unhide HU) hul (fun k hk => by have := unhide HUB k hk; omega)
              · clear hy1 hy2
                go_wp2_with fail
                go_meet
                case rel => exact (unhide HMID).int hbw2 _ hrn
              · clear hy1 hy2
                go_wp2_with fail
                go_meet
                case rel => exact (unhide HMID).int hbw2 _ (by unfold W64; omega)
            case rest =>
              have HM := hide hcut
              have hXw := hcut.only.heap (unhide HXc) (fun e => by have h : w.heap.size + 1 = ib := e; omega)
              clear c0 c1 c2 c3 c4 c5 d0 d1 d2 d3 d4 df hBI HT HMID HXw
              obtain ⟨c0, c1, c2, c3, c4, c5⟩ := two_6 hXw
              obtain ⟨tt, ty, tn, ta, tl, tc, d0, d1, d2, d3, d4, df⟩ := hcut.cells
              have HONw : Hid (Only (fun _ => False) w wc) := (unhide HOc).trans hcut.only (fun j hj e => by have h : j = ib := e; omega)
              have HDW : Hid (Has wc (.slice dvo r.data.length dvc) r.data) := by
                have h := (unhide HRK).data
                rw [unhide HDV] at h
                exact h.only (unhide HONw) (fun _ _ _ e => e)
              have HBX := hide hcut.ex
              clear hcut hXw
              have HP5 := hide (pick_any r.odd 150 wc (by decide) (by decide))
              go_wp2_with fail
              refine (unhide HP5).mono ?_
              rintro e wc ⟨rfl, rfl⟩
              by_cases h149 : r.odd % 150 = 149
              · skip
                rw [h149]
                clear h149
                go_upto_region 40 with fail
                have HM2 := hide ((unhide HM).int hbw2 r.num hrn)
                generalize wc.setCell ⟨ib, 2, none⟩ (.int .i64 r.num) = w30 at *
                obtain ⟨t, yy, nn, dv, d, hb, h1, h2, h3, h4, h5, h6⟩ := (unhide HM2).ex
                obtain ⟨ao, cap, hds, _⟩ := h4.shape
                subst hds
                have hR := (unhide HM2).only.heap (unhide HRc) (fun e => by have h : w.heap.size = ib := e; omega)
                have hF := set_5 hR (.int .i64 t) (.int .i64 yy) (.int .i64 nn) (.slice ao d.length cap) (.slice kvo acc.length kvc)
                have oF : Only (fun j => j = w.heap.size) w30 (((((w30.setCell ⟨w.heap.size, 0, none⟩ (.int .i64 t)).setCell ⟨w.heap.size, 1, none⟩ (.int .i64 yy)).setCell ⟨w.heap.size, 2, none⟩ (.int .i64 nn)).setCell ⟨w.heap.size, 3, none⟩ (.slice ao d.length cap)).setCell ⟨w.heap.size, 4, none⟩ (.slice kvo acc.length kvc)) := (((((Only.refl _ _).here 0 _).here 1 _).here 2 _).here 3 _).here 4 _
                have hIT : ItAt (fun k => wb.heap.size ≤ k) w30 (n + 1 + 1) (.mk t yy nn d acc) (.slice ao d.length cap) (.slice kvo acc.length kvc) := ⟨h4, fun _ k hk => h6 k hk, (unhide HM2).row.kids (fun k hk => hk)⟩
                have hIT2 := ItAt.mono (R := fun k => w.heap.size ≤ k) (fun k _ hk => by have hk' : wb.heap.size ≤ k := hk; omega) _ (ItAt.only oF (fun k hk hq e => by have h : k = w.heap.size := e; have hq' : wb.heap.size ≤ k := hq; omega) _ hIT)
                have hon := (((unhide HOc).trans (unhide HM2).only (fun j hj e => by have h : j = ib := e; omega)).trans oF (fun j hj e => by have h : j = w.heap.size := e; omega) : Only (fun _ => False) w _)
                have HALL := hide (And.intro hIT2 (And.intro hF hon))
                have HSML : Hid (It.small 32 (.mk t yy nn d acc)) := ⟨h1, h2, h3, h5, unhide HSA⟩
                have HCNT : Hid (It.count (.mk t yy nn d acc) ≤ cnt (fun k => ((X k).parent % k).toNat) (min m 30) (n + 1) i) := by
                  show 1 + It.countAll acc ≤ 1 + kidSum _ i _ _
                  have := unhide HCN
                  rw [unhide HPF] at this
                  omega
                obtain ⟨e0, e1, e2, e3, e4, ef⟩ := two_5 hb
                obtain ⟨z0, z1, z2, z3, z4, zf⟩ := two_5 hR
                clear hb h1 h2 h3 h4 h5 h6 hR hF oF hIT hIT2 hon HM2
                go_wp2
                generalize (((((w30.setCell ⟨w.heap.size, 0, none⟩ (.int .i64 t)).setCell ⟨w.heap.size, 1, none⟩ (.int .i64 yy)).setCell ⟨w.heap.size, 2, none⟩ (.int .i64 nn)).setCell ⟨w.heap.size, 3, none⟩ (.slice ao d.length cap)).setCell ⟨w.heap.size, 4, none⟩ (.slice kvo acc.length kvc)) = w31 at *
                obtain ⟨t0, t1, t2, t3, t4, _⟩ := two_5 (unhide HALL).2.1
                (try simp only [Exit.inBlock, Exit.then])
                refine bodyPost_ret (v := ival (.mk t yy nn d acc) (.slice ao d.length cap) (.slice kvo acc.length kvc)) (by simp [results, Tryd.results13, go_sem, t0, t1, t2, t3, t4, It.tag, It.typ, It.int]) rfl ?_
                exact ⟨_, _, _, rfl, (unhide HALL).1, unhide HSML, unhide HCNT, (unhide HALL).2.2⟩
              · skip
                by_cases h148 : r.odd % 150 = 148
                · skip
                  rw [h148]
                  clear h148
                  have HFE := hide (few_any _ r.data 9 wc (unhide HDW) (Or.inr (by decide)))
                  go_wp2_with fail
                  refine (unhide HFE).mono ?_
                  rintro e w2 ⟨u, rfl, hown, o2⟩
                  have HM1 := hide ((unhide HM).same o2)
                  have HU := hide (Has.ofOwns hown.out)
                  have HUB := hide (owns_blk hown)
                  have hs2 := (unhide HM).only.size
                  obtain ⟨tt', ty', tn', ta', tl', tc', f0, f1, f2, f3, f4, ff⟩ := (unhide HM1).cells
                  obtain ⟨ua, uc, hus, _⟩ := (unhide HU).shape
                  have hul : (r.data.take 9).length ≤ 32 := by rw [List.length_take]; omega
                  generalize r.data.take 9 = ud at *
                  subst hus
                  clear hown o2 HFE
                  go_upto_region 40 with fail
                  have HM2 := hide ((unhide HM1).dat hbw2 (.slice ua ud.length uc) ud (unhide HU) hul (fun k hk => by have := unhide HUB k hk; omega))
                  generalize w2.setCell ⟨ib, 3, none⟩ (.slice ua ud.length uc) = w30 at *
                  obtain ⟨t, yy, nn, dv, d, hb, h1, h2, h3, h4, h5, h6⟩ := (unhide HM2).ex
                  obtain ⟨ao, cap, hds, _⟩ := h4.shape
                  subst hds
                  have hR := (unhide HM2).only.heap (unhide HRc) (fun e => by have h : w.heap.size = ib := e; omega)
                  have hF := set_5 hR (.int .i64 t) (.int .i64 yy) (.int .i64 nn) (.slice ao d.length cap) (.slice kvo acc.length kvc)
                  have oF : Only (fun j => j = w.heap.size) w30 (((((w30.setCell ⟨w.heap.size, 0, none⟩ (.int .i64 t)).setCell ⟨w.heap.size, 1, none⟩ (.int .i64 yy)).setCell ⟨w.heap.size, 2, none⟩ (.int .i64 nn)).setCell ⟨w.heap.size, 3, none⟩ (.slice ao d.length cap)).setCell ⟨w.heap.size, 4, none⟩ (.slice kvo acc.length kvc)) := (((((Only.refl _ _).here 0 _).here 1 _).here 2 _).here 3 _).here 4 _
                  have hIT : ItAt (fun k => wb.heap.size ≤ k) w30 (n + 1 + 1) (.mk t yy nn d acc) (.slice ao d.length cap) (.slice kvo acc.length kvc) := ⟨h4, fun _ k hk => h6 k hk, (unhide HM2).row.kids (fun k hk => hk)⟩
                  have hIT2 := ItAt.mono (R := fun k => w.heap.size ≤ k) (fun k _ hk => by have hk' : wb.heap.size ≤ k := hk; omega) _ (ItAt.only oF (fun k hk hq e => by have h : k = w.heap.size := e; have hq' : wb.heap.size ≤ k := hq; omega) _ hIT)
                  have hon := (((unhide HOc).trans (unhide HM2).only (fun j hj e => by have h : j = ib := e; omega)).trans oF (fun j hj e => by have h : j = w.heap.size := e; omega) : Only (fun _ => False) w _)
                  have HALL := hide (And.intro hIT2 (And.intro hF hon))
                  have HSML : Hid (It.small 32 (.mk t yy nn d acc)) := ⟨h1, h2, h3, h5, unhide HSA⟩
                  have HCNT : Hid (It.count (.mk t yy nn d acc) ≤ cnt (fun k => ((X k).parent % k).toNat) (min m 30) (n + 1) i) := by
                    show 1 + It.countAll acc ≤ 1 + kidSum _ i _ _
                    have := unhide HCN
                    rw [unhide HPF] at this
                    omega
                  obtain ⟨e0, e1, e2, e3, e4, ef⟩ := two_5 hb
                  obtain ⟨z0, z1, z2, z3, z4, zf⟩ := two_5 hR
                  clear hb h1 h2 h3 h4 h5 h6 hR hF oF hIT hIT2 hon HM2
                  go_wp2
                  generalize (((((w30.setCell ⟨w.heap.size, 0, none⟩ (.int .i64 t)).setCell ⟨w.heap.size, 1, none⟩ (.int .i64 yy)).setCell ⟨w.heap.size, 2, none⟩ (.int .i64 nn)).setCell ⟨w.heap.size, 3, none⟩ (.slice ao d.length cap)).setCell ⟨w.heap.size, 4, none⟩ (.slice kvo acc.length kvc)) = w31 at *
                  obtain ⟨t0, t1, t2, t3, t4, _⟩ := two_5 (unhide HALL).2.1
                  (try simp only [Exit.inBlock, Exit.then])
                  refine bodyPost_ret (v := ival (.mk t yy nn d acc) (.slice ao d.length cap) (.slice kvo acc.length kvc)) (by simp [results, Tryd.results13, go_sem, t0, t1, t2, t3, t4, It.tag, It.typ, It.int]) rfl ?_
                  exact ⟨_, _, _, rfl, (unhide HALL).1, unhide HSML, unhide HCNT, (unhide HALL).2.2⟩
                · skip
                  by_cases h147 : r.odd % 150 = 147
                  · skip
                    rw [h147]
                    clear h147
                    go_upto_region 40 with fail
                    have HM2 := hide ((unhide HM).tag hbw2 r.tag (unhide HRK).tag)
                    generalize wc.setCell ⟨ib, 0, none⟩ (.int .i64 r.tag) = w30 at *
                    obtain ⟨t, yy, nn, dv, d, hb, h1, h2, h3, h4, h5, h6⟩ := (unhide HM2).ex
                    obtain ⟨ao, cap, hds, _⟩ := h4.shape
                    subst hds
                    have hR := (unhide HM2).only.heap (unhide HRc) (fun e => by have h : w.heap.size = ib := e; omega)
                    have hF := set_5 hR (.int .i64 t) (.int .i64 yy) (.int .i64 nn) (.slice ao d.length cap) (.slice kvo acc.length kvc)
                    have oF : Only (fun j => j = w.heap.size) w30 (((((w30.setCell ⟨w.heap.size, 0, none⟩ (.int .i64 t)).setCell ⟨w.heap.size, 1, none⟩ (.int .i64 yy)).setCell ⟨w.heap.size, 2, none⟩ (.int .i64 nn)).setCell ⟨w.heap.size, 3, none⟩ (.slice ao d.length cap)).setCell ⟨w.heap.size, 4, none⟩ (.slice kvo acc.length kvc)) := (((((Only.refl _ _).here 0 _).here 1 _).here 2 _).here 3 _).here 4 _
                    have hIT : ItAt (fun k => wb.heap.size ≤ k) w30 (n + 1 + 1) (.mk t yy nn d acc) (.slice ao d.length cap) (.slice kvo acc.length kvc) := ⟨h4, fun _ k hk => h6 k hk, (unhide HM2).row.kids (fun k hk => hk)⟩
                    have hIT2 := ItAt.mono (R := fun k => w.heap.size ≤ k) (fun k _ hk => by have hk' : wb.heap.size ≤ k := hk; omega) _ (ItAt.only oF (fun k hk hq e => by have h : k = w.heap.size := e; have hq' : wb.heap.size ≤ k := hq; omega) _ hIT)
                    have hon := (((unhide HOc).trans (unhide HM2).only (fun j hj e => by have h : j = ib := e; omega)).trans oF (fun j hj e => by have h : j = w.heap.size := e; omega) : Only (fun _ => False) w _)
                    have HALL := hide (And.intro hIT2 (And.intro hF hon))
                    have HSML : Hid (It.small 32 (.mk t yy nn d acc)) := ⟨h1, h2, h3, h5, unhide HSA⟩
                    have HCNT : Hid (It.count (.mk t yy nn d acc) ≤ cnt (fun k => ((X k).parent % k).toNat) (min m 30) (n + 1) i) := by
                      show 1 + It.countAll acc ≤ 1 + kidSum _ i _ _
                      have := unhide HCN
                      rw [unhide HPF] at this
                      omega
                    obtain ⟨e0, e1, e2, e3, e4, ef⟩ := two_5 hb
                    obtain ⟨z0, z1, z2, z3, z4, zf⟩ := two_5 hR
                    clear hb h1 h2 h3 h4 h5 h6 hR hF oF hIT hIT2 hon HM2
                    go_wp2
                    generalize (((((w30.setCell ⟨w.heap.size, 0, none⟩ (.int .i64 t)).setCell ⟨w.heap.size, 1, none⟩ (.int .i64 yy)).setCell ⟨w.heap.size, 2, none⟩ (.int .i64 nn)).setCell ⟨w.heap.size, 3, none⟩ (.slice ao d.length cap)).setCell ⟨w.heap.size, 4, none⟩ (.slice kvo acc.length kvc)) = w31 at *
                    obtain ⟨t0, t1, t2, t3, t4, _⟩ := two_5 (unhide HALL).2.1
                    (try simp only [Exit.inBlock, Exit.then])
                    refine bodyPost_ret (v := ival (.mk t yy nn d acc) (.slice ao d.length cap) (.slice kvo acc.length kvc)) (by simp [results, Tryd.results13, go_sem, t0, t1, t2, t3, t4, It.tag, It.typ, It.int]) rfl ?_
                    exact ⟨_, _, _, rfl, (unhide HALL).1, unhide HSML, unhide HCNT, (unhide HALL).2.2⟩
                  · skip
                    by_cases h146 : r.odd % 150 = 146
                    · skip
                      rw [h146]
                      clear h146
                      have HP13 := hide (pick_any r.typ 13 wc (by decide) (by decide))
                      have hp13a := Int.emod_nonneg r.typ (by decide : (13 : Int) ≠ 0)
                      have hp13b := Int.emod_lt_of_pos r.typ (by decide : (0 : Int) < 13)
                      go_wp2_with fail
                      refine (unhide HP13).mono ?_
                      rintro e wc ⟨rfl, rfl⟩
                      generalize r.typ % 13 = ry at *
                      go_upto_region 40 with fail
                      have HM2 := hide ((unhide HM).typ hbw2 ry ⟨by omega, by omega⟩)
                      generalize wc.setCell ⟨ib, 1, none⟩ (.int .i64 ry) = w30 at *
                      obtain ⟨t, yy, nn, dv, d, hb, h1, h2, h3, h4, h5, h6⟩ := (unhide HM2).ex
                      obtain ⟨ao, cap, hds, _⟩ := h4.shape
                      subst hds
                      have hR := (unhide HM2).only.heap (unhide HRc) (fun e => by have h : w.heap.size = ib := e; omega)
                      have hF := set_5 hR (.int .i64 t) (.int .i64 yy) (.int .i64 nn) (.slice ao d.length cap) (.slice kvo acc.length kvc)
                      have oF : Only (fun j => j = w.heap.size) w30 (((((w30.setCell ⟨w.heap.size, 0, none⟩ (.int .i64 t)).setCell ⟨w.heap.size, 1, none⟩ (.int .i64 yy)).setCell ⟨w.heap.size, 2, none⟩ (.int .i64 nn)).setCell ⟨w.heap.size, 3, none⟩ (.slice ao d.length cap)).setCell ⟨w.heap.size, 4, none⟩ (.slice kvo acc.length kvc)) := (((((Only.refl _ _).here 0 _).here 1 _).here 2 _).here 3 _).here 4 _
                      have hIT : ItAt (fun k => wb.heap.size ≤ k) w30 (n + 1 + 1) (.mk t yy nn d acc) (.slice ao d.length cap) (.slice kvo acc.length kvc) := ⟨h4, fun _ k hk => h6 k hk, (unhide HM2).row.kids (fun k hk => hk)⟩
                      have hIT2 := ItAt.mono (R := fun k => w.heap.size ≤ k) (fun k _ hk => by have hk' : wb.heap.size ≤ k := hk; omega) _ (ItAt.only oF (fun k hk hq e => by have h : k = w.heap.size := e; have hq' : wb.heap.size ≤ k := hq; omega) _ hIT)
                      have hon := (((unhide HOc).trans (unhide HM2).only (fun j hj e => by have h : j = ib := e; omega)).trans oF (fun j hj e => by have h : j = w.heap.size := e; omega) : Only (fun _ => False) w _)
                      have HALL := hide (And.intro hIT2 (And.intro hF hon))
                      have HSML : Hid (It.small 32 (.mk t yy nn d acc)) := ⟨h1, h2, h3, h5, unhide HSA⟩
                      have HCNT : Hid (It.count (.mk t yy nn d acc) ≤ cnt (fun k => ((X k).parent % k).toNat) (min m 30) (n + 1) i) := by
                        show 1 + It.countAll acc ≤ 1 + kidSum _ i _ _
                        have := unhide HCN
                        rw [unhide HPF] at this
                        omega
                      obtain ⟨e0, e1, e2, e3, e4, ef⟩ := two_5 hb
                      obtain ⟨z0, z1, z2, z3, z4, zf⟩ := two_5 hR
                      clear hb h1 h2 h3 h4 h5 h6 hR hF oF hIT hIT2 hon HM2
                      go_wp2
                      generalize (((((w30.setCell ⟨w.heap.size, 0, none⟩ (.int .i64 t)).setCell ⟨w.heap.size, 1, none⟩ (.int .i64 yy)).setCell ⟨w.heap.size, 2, none⟩ (.int .i64 nn)).setCell ⟨w.heap.size, 3, none⟩ (.slice ao d.length cap)).setCell ⟨w.heap.size, 4, none⟩ (.slice kvo acc.length kvc)) = w31 at *
                      obtain ⟨t0, t1, t2, t3, t4, _⟩ := two_5 (unhide HALL).2.1
                      (try simp only [Exit.inBlock, Exit.then])
                      refine bodyPost_ret (v := ival (.mk t yy nn d acc) (.slice ao d.length cap) (.slice kvo acc.length kvc)) (by simp [results, Tryd.results13, go_sem, t0, t1, t2, t3, t4, It.tag, It.typ, It.int]) rfl ?_
                      exact ⟨_, _, _, rfl, (unhide HALL).1, unhide HSML, unhide HCNT, (unhide HALL).2.2⟩
                    · skip
                      have b149 : (r.odd % 150 == 149) = false := by rw [beq_eq_false_iff_ne]; exact h149
                      have b148 : (r.odd % 150 == 148) = false := by rw [beq_eq_false_iff_ne]; exact h148
                      have b147 : (r.odd % 150 == 147) = false := by rw [beq_eq_false_iff_ne]; exact h147
                      have b146 : (r.odd % 150 == 146) = false := by rw [beq_eq_false_iff_ne]; exact h146
                      generalize r.odd % 150 = ro at *
                      clear h149 h148 h147 h146
                      go_upto_region 40 with fail
                      have HM2 := HM
                      clear d0 d1 d2 d3 d4 df
                      generalize wc = w30 at *
                      obtain ⟨t, yy, nn, dv, d, hb, h1, h2, h3, h4, h5, h6⟩ := (unhide HM2).ex
                      obtain ⟨ao, cap, hds, _⟩ := h4.shape
                      subst hds
                      have hR := (unhide HM2).only.heap (unhide HRc) (fun e => by have h : w.heap.size = ib := e; omega)
                      have hF := set_5 hR (.int .i64 t) (.int .i64 yy) (.int .i64 nn) (.slice ao d.length cap) (.slice kvo acc.length kvc)
                      have oF : Only (fun j => j = w.heap.size) w30 (((((w30.setCell ⟨w.heap.size, 0, none⟩ (.int .i64 t)).setCell ⟨w.heap.size, 1, none⟩ (.int .i64 yy)).setCell ⟨w.heap.size, 2, none⟩ (.int .i64 nn)).setCell ⟨w.heap.size, 3, none⟩ (.slice ao d.length cap)).setCell ⟨w.heap.size, 4, none⟩ (.slice kvo acc.length kvc)) := (((((Only.refl _ _).here 0 _).here 1 _).here 2 _).here 3 _).here 4 _
                      have hIT : ItAt (fun k => wb.heap.size ≤ k) w30 (n + 1 + 1) (.mk t yy nn d acc) (.slice ao d.length cap) (.slice kvo acc.length kvc) := ⟨h4, fun _ k hk => h6 k hk, (unhide HM2).row.kids (fun k hk => hk)⟩
                      have hIT2 := ItAt.mono (R := fun k => w.heap.size ≤ k) (fun k _ hk => by have hk' : wb.heap.size ≤ k := hk; omega) _ (ItAt.only oF (fun k hk hq e => by have h : k = w.heap.size := e; have hq' : wb.heap.size ≤ k := hq; omega) _ hIT)
                      have hon := (((unhide HOc).trans (unhide HM2).only (fun j hj e => by have h : j = ib := e; omega)).trans oF (fun j hj e => by have h : j = w.heap.size := e; omega) : Only (fun _ => False) w _)
                      have HALL := hide (And.intro hIT2 (And.intro hF hon))
                      have HSML : Hid (It.small 32 (.mk t yy nn d acc)) := ⟨h1, h2, h3, h5, unhide HSA⟩
                      have HCNT : Hid (It.count (.mk t yy nn d acc) ≤ cnt (fun k => ((X k).parent % k).toNat) (min m 30) (n + 1) i) := by
                        show 1 + It.countAll acc ≤ 1 + kidSum _ i _ _
                        have := unhide HCN
                        rw [unhide HPF] at this
                        omega
                      obtain ⟨e0, e1, e2, e3, e4, ef⟩ := two_5 hb
                      obtain ⟨z0, z1, z2, z3, z4, zf⟩ := two_5 hR
                      clear hb h1 h2 h3 h4 h5 h6 hR hF oF hIT hIT2 hon HM2
                      go_wp2
                      generalize (((((w30.setCell ⟨w.heap.size, 0, none⟩ (.int .i64 t)).setCell ⟨w.heap.size, 1, none⟩ (.int .i64 yy)).setCell ⟨w.heap.size, 2, none⟩ (.int .i64 nn)).setCell ⟨w.heap.size, 3, none⟩ (.slice ao d.length cap)).setCell ⟨w.heap.size, 4, none⟩ (.slice kvo acc.length kvc)) = w31 at *
                      obtain ⟨t0, t1, t2, t3, t4, _⟩ := two_5 (unhide HALL).2.1
                      (try simp only [Exit.inBlock, Exit.then])
                      refine bodyPost_ret (v := ival (.mk t yy nn d acc) (.slice ao d.length cap) (.slice kvo acc.length kvc)) (by simp [results, Tryd.results13, go_sem, t0, t1, t2, t3, t4, It.tag, It.typ, It.int]) rfl ?_
                      exact ⟨_, _, _, rfl, (unhide HALL).1, unhide HSML, unhide HCNT, (unhide HALL).2.2⟩
end Tt
end Go.Proofs.YtedmfjnmclbkpaaDoor
