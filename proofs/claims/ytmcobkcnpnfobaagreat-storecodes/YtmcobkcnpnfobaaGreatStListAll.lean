/-
  What locksmithlaw5's []Raw and []Step read as.
  locksmithlaw5's list: changes, mostly such as may be.
-/
import Derived.Test.YtmcobkcnpnfobaaGreatArgSteps
import Derived.Test.YtmcobkcnpnfobaaGreatStText
import Derived.Test.YtmcobkcnpnfobaaGreatHandPick
import Derived.Test.YtmcobkcnpnfobaaGreatHandBytes
import Derived.Deep.RegionHeldLaw
import Derived.Deep.DeepCutAuto
import Derived.Deep.CutBlock
namespace Go.Proofs.YtmcobkcnpnfobaaGreat
open Go.RowKit Go.ChangeShapes Go.WideShapes Go.ChangeAt Go.Deep
set_option linter.unusedSimpArgs false
set_option linter.unusedVariables false

theorem Tryz.cellsRaw : Tryz.prog.cellsOf 37 = 5 := by kernel_rfl
theorem Tryz.cellsRaws : Tryz.prog.cellsOf 22 = 1 := by kernel_rfl
theorem Tryz.cellsStr5 : Tryz.prog.cellsOf 9 = 1 := by kernel_rfl
theorem Tryz.cellsBool5 : Tryz.prog.cellsOf 4 = 1 := by kernel_rfl
theorem Tryz.cellsInts5 : Tryz.prog.cellsOf 96 = 1 := by kernel_rfl

/-- a raw change -/
structure RawV where
  key : Int
  size : Int
  num : Int
  has : Bool
  odd : List UInt8

def RawV.cells (r : RawV) : List Value := [.int .i64 r.key, .int .i64 r.size, .int .i64 r.num, .bool r.has, encStr r.odd]
def RawV.Ok (r : RawV) : Prop := I64 r.num ∧ r.odd.length ≤ maxLen

/-- v reads as m raw changes -/
structure Raws (w : World) (v : Value) (m : Nat) (X : Nat → RawV) : Prop where
  shape : ∃ ao cap, v = .slice ao m cap ∧ m ≤ cap ∧ cap ≤ maxLen ∧ (0 < m → ∃ bb off, ao = some ⟨bb, off, none⟩ ∧ bb < w.heap.size ∧
    ∀ i, i < m → w.cell? ⟨bb, off + i * 5, none⟩ = some (.int .i64 (X i).key) ∧ w.cell? ⟨bb, off + i * 5 + 1, none⟩ = some (.int .i64 (X i).size) ∧ w.cell? ⟨bb, off + i * 5 + 2, none⟩ = some (.int .i64 (X i).num) ∧ w.cell? ⟨bb, off + i * 5 + 3, none⟩ = some (.bool (X i).has) ∧ w.cell? ⟨bb, off + i * 5 + 4, none⟩ = some (encStr (X i).odd))
  each : ∀ i, i < m → (X i).Ok

theorem Raws.same {w w' : World} {v : Value} {m : Nat} {X : Nat → RawV} (h : Raws w v m X) (ho : Only (fun _ => False) w w') : Raws w' v m X := by
  obtain ⟨⟨ao, cap, e, h1, h2, h3⟩, h4⟩ := h
  refine ⟨⟨ao, cap, e, h1, h2, fun h0 => ?_⟩, h4⟩
  obtain ⟨bb, off, e2, hb, hc⟩ := h3 h0
  refine ⟨bb, off, e2, Nat.lt_of_lt_of_le hb ho.size, fun i hi => ?_⟩
  obtain ⟨k0, k1, k2, k3, k4⟩ := hc i hi
  exact ⟨ho.cell k0 (fun e => e), ho.cell k1 (fun e => e), ho.cell k2 (fun e => e), ho.cell k3 (fun e => e), ho.cell k4 (fun e => e)⟩

section
variable {H : Type} {enc : TypeId × Value → H} {w : World} {base : Nat} {spare : Nat → Bool} {held : Bool}

set_option maxRecDepth 100000 in
theorem raw_of_trod {fuel : Nat} {cs : List Value} {x : DataW H × List MemPlace} (h : DataW.trod enc Tryz.prog w base spare held fuel 37 cs = some x) :
    ∃ r : RawV, cs = r.cells ∧ r.Ok := by
  obtain ⟨y0, y1, y2, y3, y4, n, hl, h0, h1, h2, h3, h4⟩ := trod_struct5 Tryz.underlying37 h
  rw [Tryz.cellsRaw] at hl
  match cs, hl with
  | [c0, c1, c2, c3, c4], _ =>
    simp only [Tryz.cellsInt, Tryz.cellsStr5, Tryz.cellsBool5, List.drop_zero, List.take_succ_cons, List.take_zero, List.drop_succ_cons] at h0 h1 h2 h3 h4
    obtain ⟨a0, e0, _, wa0⟩ := DataW.trod_int Tryz.underlying3 h0
    obtain ⟨a1, e1, _, wa1⟩ := DataW.trod_int Tryz.underlying3 h1
    obtain ⟨a2, e2, _, wa2⟩ := DataW.trod_int Tryz.underlying3 h2
    obtain ⟨a3, e3, _⟩ := DataW.trod_bool Tryz.underlying4 h3
    obtain ⟨a4, e4, _, wa4⟩ := DataW.trod_string Tryz.underlying9 h4
    simp only [List.cons.injEq, and_true] at e0 e1 e2 e3 e4
    subst e0; subst e1; subst e2; subst e3; subst e4
    have h2' : -9223372036854775808 ≤ a2 ∧ a2 ≤ 9223372036854775807 := by simpa [Lit.wf, IntKind.min, IntKind.max, IntKind.signed, IntKind.bits] using wa2
    exact ⟨⟨a0, a1, a2, a3, a4.data.toList⟩, rfl, h2', by simpa using wa4⟩

theorem raws_of_trod {fuel : Nat} {v : Value} {x : DataW H × List MemPlace} (h : DataW.trod enc Tryz.prog w base spare held fuel 22 [v] = some x) : ∃ m X, Raws w v m X := by
  rcases open_slice Tryz.underlying22 h with ⟨hcs, hx⟩ | ⟨a, len, cap, m, n, D, Pl, hcs, hb, hl, hm, hmm, hx, hel⟩
  · simp only [List.cons.injEq, and_true] at hcs
    subst hcs
    exact ⟨0, fun _ => ⟨0, 0, 0, false, []⟩, ⟨⟨none, 0, rfl, Nat.le_refl _, Nat.zero_le _, fun h => by omega⟩, fun i hi => by omega⟩⟩
  · simp only [List.cons.injEq, and_true] at hcs
    subst hcs
    have hlm : len ≤ m := by rw [hmm]; split <;> omega
    rw [Tryz.cellsRaw] at hel
    have key : ∀ i, i < len → ∃ s : RawV, (w.cell? (a.add (i * 5)) = some (.int .i64 s.key) ∧ w.cell? ((a.add (i * 5)).add 1) = some (.int .i64 s.size) ∧ w.cell? ((a.add (i * 5)).add 2) = some (.int .i64 s.num) ∧ w.cell? ((a.add (i * 5)).add 3) = some (.bool s.has) ∧ w.cell? ((a.add (i * 5)).add 4) = some (encStr s.odd)) ∧ s.Ok := by
      intro i hi
      obtain ⟨cs, hc, ht⟩ := hel i (by omega)
      obtain ⟨c0, c1, c2, c3, c4, rfl, k0, k1, k2, k3, k4⟩ := cells_five_at hc
      obtain ⟨s, e, hq⟩ := raw_of_trod ht
      simp only [RawV.cells, List.cons.injEq, and_true] at e
      obtain ⟨rfl, rfl, rfl, rfl, rfl⟩ := e
      exact ⟨s, ⟨k0, k1, k2, k3, k4⟩, hq⟩
    haveI : Inhabited RawV := ⟨⟨0, 0, 0, false, []⟩⟩
    obtain ⟨X, hX⟩ := choose_lt key
    refine ⟨len, X, ⟨⟨some a, cap, rfl, hl, hm, fun h0 => ?_⟩, fun i hi => (hX i hi).2⟩⟩
    have hs0 : a.spot = none := by
      have := spot_of_cell (hX 0 h0).1.1
      simpa [Addr.add] using this
    have hbl := World.block_lt_of_cell? w _ (hX 0 h0).1.1
    refine ⟨a.block, a.off, ?_, by simpa [Addr.add] using hbl, fun i hi => ?_⟩
    · obtain ⟨b, o, s⟩ := a
      simp only at hs0
      subst hs0
      rfl
    · have h3 := (hX i hi).1
      rw [addr_add a hs0] at h3
      refine ⟨h3.1, ?_, ?_, ?_, ?_⟩
      · have := h3.2.1; rwa [addr_add _ rfl] at this
      · have := h3.2.2.1; rwa [addr_add _ rfl] at this
      · have := h3.2.2.2.1; rwa [addr_add _ rfl] at this
      · have := h3.2.2.2.2; rwa [addr_add _ rfl] at this

/-- one step -/
structure St5 where
  what : Int
  num : Int
  lv : Value
  lm : Nat
  lx : Nat → RawV
  mv : Value
  mm : Nat
  mx : Nat → RawV
  fv : Value
  fs : List Int

structure Step5 (w : World) (s : St5) : Prop where
  l : Raws w s.lv s.lm s.lx
  m : Raws w s.mv s.mm s.mx
  fates : HasV w s.fv (s.fs.map (.int .i64))
  num : I64 s.num

def St5.cells (s : St5) : List Value := [.int .i64 s.what, .int .i64 s.num, s.lv, s.mv, s.fv]

structure Steps5 (w : World) (v : Value) (m : Nat) (X : Nat → St5) : Prop where
  shape : ∃ ao cap, v = .slice ao m cap ∧ m ≤ cap ∧ cap ≤ maxLen ∧ (0 < m → ∃ bb off, ao = some ⟨bb, off, none⟩ ∧ bb < w.heap.size ∧
    ∀ i, i < m → w.cell? ⟨bb, off + i * 5, none⟩ = some (.int .i64 (X i).what) ∧ w.cell? ⟨bb, off + i * 5 + 1, none⟩ = some (.int .i64 (X i).num) ∧ w.cell? ⟨bb, off + i * 5 + 2, none⟩ = some (X i).lv ∧ w.cell? ⟨bb, off + i * 5 + 3, none⟩ = some (X i).mv ∧ w.cell? ⟨bb, off + i * 5 + 4, none⟩ = some (X i).fv)
  each : ∀ i, i < m → Step5 w (X i)

theorem Step5.same {w w' : World} {s : St5} (h : Step5 w s) (ho : Only (fun _ => False) w w') : Step5 w' s :=
  ⟨h.l.same ho, h.m.same ho, h.fates.only ho (fun _ _ _ h => h), h.num⟩

end

end Go.Proofs.YtmcobkcnpnfobaaGreat

namespace Go.Proofs.YtmcobkcnpnfobaaGreat
open Go.RowKit
set_option linter.unusedSimpArgs false
set_option linter.unusedVariables false

theorem cells_5 {w : World} {b : Nat} {x y z u v : Value} {t : TypeId} (h : w.heap[b]? = some (.cells #[x, y, z, u, v] t (0, 0))) :
    w.cell? ⟨b, 0, none⟩ = some x ∧ w.cell? ⟨b, 1, none⟩ = some y ∧ w.cell? ⟨b, 2, none⟩ = some z ∧ w.cell? ⟨b, 3, none⟩ = some u ∧ w.cell? ⟨b, 4, none⟩ = some v := by
  simp [World.cell?, h]

theorem byte_pick (p : Nat) (hp : p < 7) : IntKind.u8.wrap (IntKind.i64.wrap (97 + (p : Int))) = ((UInt8.ofNat (97 + p)).toNat : Int) := by
  have h : (UInt8.ofNat (97 + p)).toNat = 97 + p := by rw [UInt8.toNat_ofNat']; omega
  rw [h, IntKind.wrap_u8, IntKind.wrap_i64]
  omega

namespace St

/-- ahead of the value: the raw change lies at xb, the change at cv -/
def CutL (w wx : World) (xb : Nat) (r : RawV) (cv : Value) : Prop :=
  ∃ cb key has, cv = .pointer (some ⟨cb, 0, none⟩) ∧ wx.heap[cb]? = some (.cells #[encStr key, .bool has, .slice none 0 0] 39 (0, 0)) ∧ key.length ≤ maxLen ∧ wx.heap[xb]? = some (.cells #[.int .i64 r.key, .int .i64 r.size, .int .i64 r.num, .bool r.has, encStr r.odd] 37 (0, 0)) ∧ w.heap.size ≤ cb ∧ cb ≠ xb ∧ Only (fun _ => False) w wx

/-- ahead of the append -/
def CutM (w wx : World) (cv : Value) : Prop :=
  ∃ cb key has x bs, cv = .pointer (some ⟨cb, 0, none⟩) ∧ wx.heap[cb]? = some (.cells #[encStr key, .bool has, x] 39 (0, 0)) ∧ key.length ≤ maxLen ∧ Has wx x bs ∧ bs.length ≤ 40 ∧ (bs ≠ [] → ∀ j, blk x = some j → w.heap.size ≤ j ∧ j ≠ cb) ∧ w.heap.size ≤ cb ∧ Only (fun _ => False) w wx

set_option maxHeartbeats 4000000 in
set_option maxRecDepth 100000 in
theorem list_any {w : World} {v : Value} {m : Nat} {X : Nat → RawV} (h : Raws w v m X) (most : Nat) (hmost : most ≤ 100) :
    Calls Tryz.prog 4 #[v, .int .i64 most] w fun e w' => ∃ u cs, e = .returned u ∧ RowC (fun k => w.heap.size ≤ k) w.heap.size w' u cs ∧ cs.length ≤ most ∧ (∀ c ∈ cs, c.key.length ≤ maxLen ∧ c.value.length ≤ 40) ∧ Only (fun _ => False) w w' := by
  obtain ⟨i0, hi, hz0, hz1, hz2⟩ := info_parts St.Tryz.info39
  obtain ⟨vo, vcap, hv, _, _, hcells⟩ := h.shape
  subst hv
  have HCELLS := hide hcells
  have HEACH := hide h.each
  clear h hcells
  go_enter Tryz.func4, Tryz.ntmps4
  go_wp2
  go_loopw [5, 6, 7, 8] (fun ov i _ _ wr => ∃ (k : Nat) (cs : List Chg), k ≤ m ∧ k ≤ most ∧ i = .int .i64 k ∧ cs.length = k ∧ Hid (∀ c ∈ cs, c.key.length ≤ maxLen ∧ c.value.length ≤ 40) ∧ RowC (fun k => w.heap.size ≤ k) w.heap.size wr ov cs ∧ Only (fun _ => False) w wr) (fun _ i _ _ _ => most - (intOf i).toNat)
  case atStart => exact ⟨0, [], Nat.zero_le _, Nat.zero_le _, rfl, rfl, fun c hc => (by cases hc), rowC_nil _ _ _, Only.refl _ _⟩
  case round =>
    obtain ⟨k, cs, hkm, hkM, rfl, hcl, HOK, hrow, ho⟩ := hrel
    have HROW := hide hrow
    have HO := hide ho
    have HCL := hide hcl
    obtain ⟨oo, oc, hov⟩ := hrow.shape
    rw [hcl] at hov
    subst hov
    clear hrow ho hcl
    by_cases hlt : k < m
    · by_cases hlM : k < most
      · have hli : (k : Int) < m := by omega
        have hlMi : (k : Int) < most := by omega
        obtain ⟨bb, off, hao, hbw, hcs⟩ := unhide HCELLS (by omega)
        subst hao
        obtain ⟨x0, x1, x2, x3, x4⟩ := hcs k hlt
        have y0 := (unhide HO).cell x0 (fun h => h)
        have y1 := (unhide HO).cell x1 (fun h => h)
        have y2 := (unhide HO).cell x2 (fun h => h)
        have y3 := (unhide HO).cell x3 (fun h => h)
        have y4 := (unhide HO).cell x4 (fun h => h)
        have HR := hide (unhide HEACH k hlt)
        obtain ⟨r, hr⟩ : ∃ r, r = X k := ⟨_, rfl⟩
        rw [← hr] at y0 y1 y2 y3 y4 HR
        clear x0 x1 x2 x3 x4 hcs hr
        go_wp2_with fail
        have hB5 := heap_alloc_new wr (.cells #[.int .i64 r.key, .int .i64 r.size, .int .i64 r.num, .bool r.has, encStr r.odd] 37)
        have o5 := (Only.refl (fun _ => False) wr).alloc (.cells #[.int .i64 r.key, .int .i64 r.size, .int .i64 r.num, .bool r.has, encStr r.odd] 37)
        generalize wr.alloc (.cells #[.int .i64 r.key, .int .i64 r.size, .int .i64 r.num, .bool r.has, encStr r.odd] 37) = w5 at *
        obtain ⟨c0, c1, c2, c3, c4⟩ := cells_5 hB5
        have HB5 := hide hB5
        have HO5 := hide o5
        have hb5 : wr.heap.size < w5.heap.size := lt_of_block hB5
        obtain ⟨p, hp⟩ := Int.eq_ofNat_of_zero_le (Int.emod_nonneg r.key (by decide : (7 : Int) ≠ 0))
        have HP := hide hp
        have hp7 := Int.emod_lt_of_pos r.key (by decide : (0 : Int) < 7)
        rw [hp] at hp7
        obtain ⟨q, hq⟩ : ∃ q : UInt8, IntKind.u8.wrap (IntKind.i64.wrap (97 + (p : Int))) = (q.toNat : Int) := ⟨UInt8.ofNat (97 + p), byte_pick p (by omega)⟩
        have HQ := hide hq
        clear hB5 o5 y0 y1 y2 y3 y4 hp hq
        go_cut [8] (fun cv wx => CutL wr wx wr.heap.size r cv)
        case first =>
          obtain ⟨has, hhas⟩ : ∃ has, has = r.has := ⟨_, rfl⟩
          rw [← hhas] at c3
          clear hhas
          cases has with
          | true =>
            refine wp_region_held_drew (S := (fun w' => w'.cell? ⟨wr.heap.size, 0, none⟩ = some (.int .i64 r.key) ∧ w'.cell? ⟨wr.heap.size, 2, none⟩ = some (.int .i64 r.num) ∧ w'.cell? ⟨wr.heap.size, 3, none⟩ = some (.bool true))) (by kernel_rfl) (⟨c0, c2, c3⟩) (fun hHeld => ?_)
            refine wpAnyH_take (i := 0) (v := ?v6) rfl (by kernel_rfl) (by kernel_rfl) (by kernel_rfl) (fun _ _ _ h => h) (Or.inl ⟨by rfl, ?hy6⟩) (by assumption) ?rest6
            case hy6 =>
              intro w hSw
              go_simp
              try with_reducible rfl
            try simp only [Act.put, List.setIfInBounds_toArray, List.set_cons_zero, List.set_cons_succ, List.getElem_toArray, List.getElem_cons_succ, List.getElem_cons_zero]
            refine wpAnyH_take (i := 1) (v := ?v7) rfl (by kernel_rfl) (by kernel_rfl) (by kernel_rfl) (fun _ _ _ h => h) (Or.inl ⟨by rfl, ?hy7⟩) (by assumption) ?rest7
            case hy7 =>
              intro w hSw
              (obtain ⟨q0, q1, q2⟩ := hSw; go_simp; try with_reducible rfl)
            try simp only [Act.put, List.setIfInBounds_toArray, List.set_cons_zero, List.set_cons_succ, List.getElem_toArray, List.getElem_cons_succ, List.getElem_cons_zero]
            refine wpAnyH_take (i := 7) (v := ?v8) rfl (by kernel_rfl) (by kernel_rfl) (by kernel_rfl) (fun _ _ _ h => h) (Or.inl ⟨by rfl, ?hy8⟩) (by assumption) ?rest8
            case hy8 =>
              intro w hSw
              go_simp
              try with_reducible rfl
            try simp only [Act.put, List.setIfInBounds_toArray, List.set_cons_zero, List.set_cons_succ, List.getElem_toArray, List.getElem_cons_succ, List.getElem_cons_zero]
            refine wpAnyH_take (i := 8) (v := ?v9) rfl (by kernel_rfl) (by kernel_rfl) (by kernel_rfl) (fun _ _ _ h => h) (Or.inl ⟨by rfl, ?hy9⟩) (by assumption) ?rest9
            case hy9 =>
              intro w hSw
              (obtain ⟨q0, q1, q2⟩ := hSw; go_simp; try with_reducible rfl)
            try simp only [Act.put, List.setIfInBounds_toArray, List.set_cons_zero, List.set_cons_succ, List.getElem_toArray, List.getElem_cons_succ, List.getElem_cons_zero]
            refine wpAnyH_ready (rs := [2, 16]) (by kernel_rfl) (by simp) ?_
            refine (AllReadyH.cons rfl (fun K hK => ?_) (AllReadyH.cons rfl (fun K hK => ?_) AllReadyH.nil))
            · skip
              go_simp
              go_wp2_with fail; refine (pick_any r.key 7 _ (by decide) (by decide)).mono ?_; rintro e wx ⟨rfl, hwx⟩; rw [hwx, unhide HP]; clear hwx wx
              refine hK.out _ _ (⟨c0, c2, c3⟩) (fun hHeld => ?_)
              clear hK K
              try simp only [Act.put, List.setIfInBounds_toArray, List.set_cons_zero, List.set_cons_succ, List.getElem_toArray, List.getElem_cons_succ, List.getElem_cons_zero]
              refine wpAnyH_take (i := 3) (v := ?v10) rfl (by kernel_rfl) (by kernel_rfl) (by kernel_rfl) (fun _ _ _ h => h) (Or.inl ⟨by rfl, ?hy10⟩) (by assumption) ?rest10
              case hy10 =>
                intro w hSw
                go_simp
                try with_reducible rfl
              try simp only [Act.put, List.setIfInBounds_toArray, List.set_cons_zero, List.set_cons_succ, List.getElem_toArray, List.getElem_cons_succ, List.getElem_cons_zero]
              refine wpAnyH_take (i := 4) (v := ?v11) rfl (by kernel_rfl) (by kernel_rfl) (by kernel_rfl) (fun _ _ _ h => h) (Or.inl ⟨by rfl, ?hy11⟩) (by assumption) ?rest11
              case hy11 =>
                intro w hSw
                go_simp
                try with_reducible rfl
              try simp only [Act.put, List.setIfInBounds_toArray, List.set_cons_zero, List.set_cons_succ, List.getElem_toArray, List.getElem_cons_succ, List.getElem_cons_zero]
              rw [unhide HQ]
              refine wpAnyH_take (i := 9) (v := ?v12) rfl (by kernel_rfl) (by kernel_rfl) (by kernel_rfl) (fun _ _ _ h => h) (Or.inl ⟨by rfl, ?hy12⟩) (by assumption) ?rest12
              case hy12 =>
                intro w hSw
                go_simp
                try with_reducible rfl
              try simp only [Act.put, List.setIfInBounds_toArray, List.set_cons_zero, List.set_cons_succ, List.getElem_toArray, List.getElem_cons_succ, List.getElem_cons_zero]
              refine wpAnyH_take (i := 10) (v := undef) rfl (by kernel_rfl) (by kernel_rfl) (by kernel_rfl) (fun _ _ _ h => h) (Or.inr ⟨by rfl, rfl⟩) (by assumption) ?_
              try simp only [Act.put, List.setIfInBounds_toArray, List.set_cons_zero, List.set_cons_succ, List.getElem_toArray, List.getElem_cons_succ, List.getElem_cons_zero]
              refine wpAnyH_take (i := 11) (v := undef) rfl (by kernel_rfl) (by kernel_rfl) (by kernel_rfl) (fun _ _ _ h => h) (Or.inr ⟨by rfl, rfl⟩) (by assumption) ?_
              try simp only [Act.put, List.setIfInBounds_toArray, List.set_cons_zero, List.set_cons_succ, List.getElem_toArray, List.getElem_cons_succ, List.getElem_cons_zero]
              refine wpAnyH_take (i := 12) (v := undef) rfl (by kernel_rfl) (by kernel_rfl) (by kernel_rfl) (fun _ _ _ h => h) (Or.inr ⟨by rfl, rfl⟩) (by assumption) ?_
              try simp only [Act.put, List.setIfInBounds_toArray, List.set_cons_zero, List.set_cons_succ, List.getElem_toArray, List.getElem_cons_succ, List.getElem_cons_zero]
              refine wpAnyH_take (i := 13) (v := undef) rfl (by kernel_rfl) (by kernel_rfl) (by kernel_rfl) (fun _ _ _ h => h) (Or.inr ⟨by rfl, rfl⟩) (by assumption) ?_
              try simp only [Act.put, List.setIfInBounds_toArray, List.set_cons_zero, List.set_cons_succ, List.getElem_toArray, List.getElem_cons_succ, List.getElem_cons_zero]
              refine wpAnyH_take (i := 14) (v := ?v13) rfl (by kernel_rfl) (by kernel_rfl) (by kernel_rfl) (fun _ _ _ h => h) (Or.inl ⟨by rfl, ?hy13⟩) (by assumption) ?rest13
              case hy13 =>
                intro w hSw
                go_simp
                try with_reducible rfl
              try simp only [Act.put, List.setIfInBounds_toArray, List.set_cons_zero, List.set_cons_succ, List.getElem_toArray, List.getElem_cons_succ, List.getElem_cons_zero]
              refine wpAnyH_ready (rs := [5, 16]) (by kernel_rfl) (by simp) ?_
              refine (AllReadyH.cons rfl (fun K hK => ?_) (AllReadyH.cons rfl (fun K hK => ?_) AllReadyH.nil))
              · skip
                have hG : ((w5.alloc (.cells #[.int .u8 (q.toNat : Int)] 5)).drew).heap[w5.heap.size]? = some (.cells #[.int .u8 (q.toNat : Int)] 5 (0, 0)) := heap_alloc_new w5 _
                have oG : Only (fun _ => False) w5 ((w5.alloc (.cells #[.int .u8 (q.toNat : Int)] 5)).drew) := ((Only.refl _ _).alloc _).drew
                go_simp
                refine hK.out _ _ (⟨oG.cell c0 (fun e => e), oG.cell c2 (fun e => e), oG.cell c3 (fun e => e)⟩) (fun hHeld => ?_)
                clear hK K
                try simp only [Act.put, List.setIfInBounds_toArray, List.set_cons_zero, List.set_cons_succ, List.getElem_toArray, List.getElem_cons_succ, List.getElem_cons_zero]
                generalize (w5.alloc (.cells #[.int .u8 (q.toNat : Int)] 5)).drew = w6 at *
                have hs6 : w5.heap.size < w6.heap.size := lt_of_block hG
                refine wpAnyH_ready (rs := [6, 16]) (by kernel_rfl) (by simp) ?_
                refine (AllReadyH.cons rfl (fun K hK => ?_) (AllReadyH.cons rfl (fun K hK => ?_) AllReadyH.nil))
                · skip
                  have hcv : (convert 24 9 (.slice (some ⟨w5.heap.size, 0, none⟩) 1 1)).run Tryz.prog w6 = .ok (encStr [q]) w6 := str_conv (has_lit (bs := [q]) (w := w6) hG (by unfold maxLen; simp))
                  go_simp
                  refine hK.out _ _ (⟨oG.cell c0 (fun e => e), oG.cell c2 (fun e => e), oG.cell c3 (fun e => e)⟩) (fun hHeld => ?_)
                  clear hK K
                  try simp only [Act.put, List.setIfInBounds_toArray, List.set_cons_zero, List.set_cons_succ, List.getElem_toArray, List.getElem_cons_succ, List.getElem_cons_zero]
                  refine wpAnyH_take (i := 15) (v := ?v14) rfl (by kernel_rfl) (by kernel_rfl) (by kernel_rfl) (fun _ _ _ h => h) (Or.inl ⟨by rfl, ?hy14⟩) (by assumption) ?rest14
                  case hy14 =>
                    intro w hSw
                    go_simp
                    try with_reducible rfl
                  try simp only [Act.put, List.setIfInBounds_toArray, List.set_cons_zero, List.set_cons_succ, List.getElem_toArray, List.getElem_cons_succ, List.getElem_cons_zero]
                  have hC := heap_alloc_new w6 (.cells #[.string ⟨#[]⟩, .bool false, .slice none 0 0] 39)
                  have oC : Only (fun _ => False) w5 (w6.alloc (.cells #[.string ⟨#[]⟩, .bool false, .slice none 0 0] 39)) := oG.alloc _
                  refine wpAnyH_ready (rs := [16]) (by kernel_rfl) (by simp) ?_
                  refine AllReadyH.cons rfl (fun K hK => ?_) AllReadyH.nil
                  go_simp
                  refine hK.out _ _ (⟨oC.cell c0 (fun e => e), oC.cell c2 (fun e => e), oC.cell c3 (fun e => e)⟩) (fun hHeld => ?_)
                  clear hK K
                  try simp only [Act.put, List.setIfInBounds_toArray, List.set_cons_zero, List.set_cons_succ, List.getElem_toArray, List.getElem_cons_succ, List.getElem_cons_zero]
                  generalize w6.alloc (.cells #[.string ⟨#[]⟩, .bool false, .slice none 0 0] 39) = w8 at *
                  obtain ⟨z0, z1, z2, zf⟩ := cells_3 hC
                  have hne : wr.heap.size ≠ w6.heap.size := by omega
                  have HST := hide (set_3 hC (encStr [q]) (.bool true) (.slice none 0 0))
                  have o3 : Only (fun k => k = w6.heap.size) w8 (((w8.setCell ⟨w6.heap.size, 0, none⟩ (encStr [q])).setCell ⟨w6.heap.size, 1, none⟩ (.bool true)).setCell ⟨w6.heap.size, 2, none⟩ (.slice none 0 0)) := (((Only.refl _ _).here 0 _).here 1 _).here 2 _
                  refine wpAnyH_ready (rs := [17]) (by kernel_rfl) (by simp) ?_
                  refine AllReadyH.cons rfl (fun K hK => ?_) AllReadyH.nil
                  go_simp
                  refine hK.out _ _ (⟨o3.cell (oC.cell c0 (fun e => e)) hne, o3.cell (oC.cell c2 (fun e => e)) hne, o3.cell (oC.cell c3 (fun e => e)) hne⟩) (fun hHeld => ?_)
                  clear hK K
                  try simp only [Act.put, List.setIfInBounds_toArray, List.set_cons_zero, List.set_cons_succ, List.getElem_toArray, List.getElem_cons_succ, List.getElem_cons_zero]
                  refine wpAnyH_done (by kernel_rfl) ?_ _
                  have HF := hide ((unhide HO5).trans ((oC.mono (T := fun k => k = w6.heap.size) (fun _ _ e => e.elim)).trans o3 (fun _ _ e => e)) (fun i hi (e : i = w6.heap.size) => by omega))
                  have HX := hide (o3.heap (oC.heap (unhide HB5) (fun e => e)) hne)
                  clear z0 z1 z2 zf o3 hHeld
                  go_wp2
                  go_meet
                  case rel => exact ⟨w6.heap.size, [q], true, rfl, unhide HST, by unfold maxLen; simp, unhide HX, by omega, fun e => hne e.symm, unhide HF⟩
                · skip
                  have hC := heap_alloc_new w6 (.cells #[.string ⟨#[]⟩, .bool false, .slice none 0 0] 39)
                  have oC6 := (Only.refl (fun _ => False) w6).alloc (.cells #[.string ⟨#[]⟩, .bool false, .slice none 0 0] 39)
                  have oC := oG.trans oC6 (fun _ _ e => e)
                  have hG2 := oC6.heap hG (fun e => e)
                  go_simp
                  refine hK.out _ _ (⟨oC.cell c0 (fun e => e), oC.cell c2 (fun e => e), oC.cell c3 (fun e => e)⟩) (fun hHeld => ?_)
                  clear hK K
                  try simp only [Act.put, List.setIfInBounds_toArray, List.set_cons_zero, List.set_cons_succ, List.getElem_toArray, List.getElem_cons_succ, List.getElem_cons_zero]
                  generalize w6.alloc (.cells #[.string ⟨#[]⟩, .bool false, .slice none 0 0] 39) = w8 at *
                  have hcv : (convert 24 9 (.slice (some ⟨w5.heap.size, 0, none⟩) 1 1)).run Tryz.prog w8 = .ok (encStr [q]) w8 := str_conv (has_lit (bs := [q]) (w := w8) hG2 (by unfold maxLen; simp))
                  refine wpAnyH_ready (rs := [6]) (by kernel_rfl) (by simp) ?_
                  refine AllReadyH.cons rfl (fun K hK => ?_) AllReadyH.nil
                  go_simp
                  refine hK.out _ _ (⟨oC.cell c0 (fun e => e), oC.cell c2 (fun e => e), oC.cell c3 (fun e => e)⟩) (fun hHeld => ?_)
                  clear hK K
                  try simp only [Act.put, List.setIfInBounds_toArray, List.set_cons_zero, List.set_cons_succ, List.getElem_toArray, List.getElem_cons_succ, List.getElem_cons_zero]
                  refine wpAnyH_take (i := 15) (v := ?v15) rfl (by kernel_rfl) (by kernel_rfl) (by kernel_rfl) (fun _ _ _ h => h) (Or.inl ⟨by rfl, ?hy15⟩) (by assumption) ?rest15
                  case hy15 =>
                    intro w hSw
                    go_simp
                    try with_reducible rfl
                  try simp only [Act.put, List.setIfInBounds_toArray, List.set_cons_zero, List.set_cons_succ, List.getElem_toArray, List.getElem_cons_succ, List.getElem_cons_zero]
                  obtain ⟨z0, z1, z2, zf⟩ := cells_3 hC
                  have hne : wr.heap.size ≠ w6.heap.size := by omega
                  have HST := hide (set_3 hC (encStr [q]) (.bool true) (.slice none 0 0))
                  have o3 : Only (fun k => k = w6.heap.size) w8 (((w8.setCell ⟨w6.heap.size, 0, none⟩ (encStr [q])).setCell ⟨w6.heap.size, 1, none⟩ (.bool true)).setCell ⟨w6.heap.size, 2, none⟩ (.slice none 0 0)) := (((Only.refl _ _).here 0 _).here 1 _).here 2 _
                  refine wpAnyH_ready (rs := [17]) (by kernel_rfl) (by simp) ?_
                  refine AllReadyH.cons rfl (fun K hK => ?_) AllReadyH.nil
                  go_simp
                  refine hK.out _ _ (⟨o3.cell (oC.cell c0 (fun e => e)) hne, o3.cell (oC.cell c2 (fun e => e)) hne, o3.cell (oC.cell c3 (fun e => e)) hne⟩) (fun hHeld => ?_)
                  clear hK K
                  try simp only [Act.put, List.setIfInBounds_toArray, List.set_cons_zero, List.set_cons_succ, List.getElem_toArray, List.getElem_cons_succ, List.getElem_cons_zero]
                  refine wpAnyH_done (by kernel_rfl) ?_ _
                  have HF := hide ((unhide HO5).trans ((oC.mono (T := fun k => k = w6.heap.size) (fun _ _ e => e.elim)).trans o3 (fun _ _ e => e)) (fun i hi (e : i = w6.heap.size) => by omega))
                  have HX := hide (o3.heap (oC.heap (unhide HB5) (fun e => e)) hne)
                  clear z0 z1 z2 zf o3 hHeld
                  go_wp2
                  go_meet
                  case rel => exact ⟨w6.heap.size, [q], true, rfl, unhide HST, by unfold maxLen; simp, unhide HX, by omega, fun e => hne e.symm, unhide HF⟩
              · skip
                have hC6 : ((w5.alloc (.cells #[.string ⟨#[]⟩, .bool false, .slice none 0 0] 39)).drew).heap[w5.heap.size]? = some (.cells #[.string ⟨#[]⟩, .bool false, .slice none 0 0] 39 (0, 0)) := heap_alloc_new w5 _
                have oC6 : Only (fun _ => False) w5 ((w5.alloc (.cells #[.string ⟨#[]⟩, .bool false, .slice none 0 0] 39)).drew) := ((Only.refl _ _).alloc _).drew
                go_simp
                refine hK.out _ _ (⟨oC6.cell c0 (fun e => e), oC6.cell c2 (fun e => e), oC6.cell c3 (fun e => e)⟩) (fun hHeld => ?_)
                clear hK K
                try simp only [Act.put, List.setIfInBounds_toArray, List.set_cons_zero, List.set_cons_succ, List.getElem_toArray, List.getElem_cons_succ, List.getElem_cons_zero]
                generalize (w5.alloc (.cells #[.string ⟨#[]⟩, .bool false, .slice none 0 0] 39)).drew = w6 at *
                have hs6 : w5.heap.size < w6.heap.size := lt_of_block hC6
                have hG := heap_alloc_new w6 (.cells #[.int .u8 (q.toNat : Int)] 5)
                have o67 := (Only.refl (fun _ => False) w6).alloc (.cells #[.int .u8 (q.toNat : Int)] 5)
                have oC := oC6.trans o67 (fun _ _ e => e)
                have hC := o67.heap hC6 (fun e => e)
                refine wpAnyH_ready (rs := [5]) (by kernel_rfl) (by simp) ?_
                refine AllReadyH.cons rfl (fun K hK => ?_) AllReadyH.nil
                go_simp
                refine hK.out _ _ (⟨oC.cell c0 (fun e => e), oC.cell c2 (fun e => e), oC.cell c3 (fun e => e)⟩) (fun hHeld => ?_)
                clear hK K
                try simp only [Act.put, List.setIfInBounds_toArray, List.set_cons_zero, List.set_cons_succ, List.getElem_toArray, List.getElem_cons_succ, List.getElem_cons_zero]
                generalize w6.alloc (.cells #[.int .u8 (q.toNat : Int)] 5) = w7 at *
                have hcv : (convert 24 9 (.slice (some ⟨w6.heap.size, 0, none⟩) 1 1)).run Tryz.prog w7 = .ok (encStr [q]) w7 := str_conv (has_lit (bs := [q]) (w := w7) hG (by unfold maxLen; simp))
                refine wpAnyH_ready (rs := [6]) (by kernel_rfl) (by simp) ?_
                refine AllReadyH.cons rfl (fun K hK => ?_) AllReadyH.nil
                go_simp
                refine hK.out _ _ (⟨oC.cell c0 (fun e => e), oC.cell c2 (fun e => e), oC.cell c3 (fun e => e)⟩) (fun hHeld => ?_)
                clear hK K
                try simp only [Act.put, List.setIfInBounds_toArray, List.set_cons_zero, List.set_cons_succ, List.getElem_toArray, List.getElem_cons_succ, List.getElem_cons_zero]
                refine wpAnyH_take (i := 15) (v := ?v16) rfl (by kernel_rfl) (by kernel_rfl) (by kernel_rfl) (fun _ _ _ h => h) (Or.inl ⟨by rfl, ?hy16⟩) (by assumption) ?rest16
                case hy16 =>
                  intro w hSw
                  go_simp
                  try with_reducible rfl
                try simp only [Act.put, List.setIfInBounds_toArray, List.set_cons_zero, List.set_cons_succ, List.getElem_toArray, List.getElem_cons_succ, List.getElem_cons_zero]
                obtain ⟨z0, z1, z2, zf⟩ := cells_3 hC
                have hne : wr.heap.size ≠ w5.heap.size := by omega
                have HST := hide (set_3 hC (encStr [q]) (.bool true) (.slice none 0 0))
                have o3 : Only (fun k => k = w5.heap.size) w7 (((w7.setCell ⟨w5.heap.size, 0, none⟩ (encStr [q])).setCell ⟨w5.heap.size, 1, none⟩ (.bool true)).setCell ⟨w5.heap.size, 2, none⟩ (.slice none 0 0)) := (((Only.refl _ _).here 0 _).here 1 _).here 2 _
                refine wpAnyH_ready (rs := [17]) (by kernel_rfl) (by simp) ?_
                refine AllReadyH.cons rfl (fun K hK => ?_) AllReadyH.nil
                go_simp
                refine hK.out _ _ (⟨o3.cell (oC.cell c0 (fun e => e)) hne, o3.cell (oC.cell c2 (fun e => e)) hne, o3.cell (oC.cell c3 (fun e => e)) hne⟩) (fun hHeld => ?_)
                clear hK K
                try simp only [Act.put, List.setIfInBounds_toArray, List.set_cons_zero, List.set_cons_succ, List.getElem_toArray, List.getElem_cons_succ, List.getElem_cons_zero]
                refine wpAnyH_done (by kernel_rfl) ?_ _
                have HF := hide ((unhide HO5).trans ((oC.mono (T := fun k => k = w5.heap.size) (fun _ _ e => e.elim)).trans o3 (fun _ _ e => e)) (fun i hi (e : i = w5.heap.size) => by omega))
                have HX := hide (o3.heap (oC.heap (unhide HB5) (fun e => e)) hne)
                clear z0 z1 z2 zf o3 hHeld
                go_wp2
                go_meet
                case rel => exact ⟨w5.heap.size, [q], true, rfl, unhide HST, by unfold maxLen; simp, unhide HX, by omega, fun e => hne e.symm, unhide HF⟩
            · skip
              have hC6 : ((w5.alloc (.cells #[.string ⟨#[]⟩, .bool false, .slice none 0 0] 39)).drew).heap[w5.heap.size]? = some (.cells #[.string ⟨#[]⟩, .bool false, .slice none 0 0] 39 (0, 0)) := heap_alloc_new w5 _
              have oC6 : Only (fun _ => False) w5 ((w5.alloc (.cells #[.string ⟨#[]⟩, .bool false, .slice none 0 0] 39)).drew) := ((Only.refl _ _).alloc _).drew
              go_simp
              refine hK.out _ _ (⟨oC6.cell c0 (fun e => e), oC6.cell c2 (fun e => e), oC6.cell c3 (fun e => e)⟩) (fun hHeld => ?_)
              clear hK K
              try simp only [Act.put, List.setIfInBounds_toArray, List.set_cons_zero, List.set_cons_succ, List.getElem_toArray, List.getElem_cons_succ, List.getElem_cons_zero]
              generalize (w5.alloc (.cells #[.string ⟨#[]⟩, .bool false, .slice none 0 0] 39)).drew = w6 at *
              have hs6 : w5.heap.size < w6.heap.size := lt_of_block hC6
              refine wpAnyH_ready (rs := [2]) (by kernel_rfl) (by simp) ?_
              refine AllReadyH.cons rfl (fun K hK => ?_) AllReadyH.nil
              go_simp
              go_wp2_with fail; refine (pick_any r.key 7 _ (by decide) (by decide)).mono ?_; rintro e wx ⟨rfl, hwx⟩; rw [hwx, unhide HP]; clear hwx wx
              refine hK.out _ _ (⟨oC6.cell c0 (fun e => e), oC6.cell c2 (fun e => e), oC6.cell c3 (fun e => e)⟩) (fun hHeld => ?_)
              clear hK K
              try simp only [Act.put, List.setIfInBounds_toArray, List.set_cons_zero, List.set_cons_succ, List.getElem_toArray, List.getElem_cons_succ, List.getElem_cons_zero]
              refine wpAnyH_take (i := 3) (v := ?v17) rfl (by kernel_rfl) (by kernel_rfl) (by kernel_rfl) (fun _ _ _ h => h) (Or.inl ⟨by rfl, ?hy17⟩) (by assumption) ?rest17
              case hy17 =>
                intro w hSw
                go_simp
                try with_reducible rfl
              try simp only [Act.put, List.setIfInBounds_toArray, List.set_cons_zero, List.set_cons_succ, List.getElem_toArray, List.getElem_cons_succ, List.getElem_cons_zero]
              refine wpAnyH_take (i := 4) (v := ?v18) rfl (by kernel_rfl) (by kernel_rfl) (by kernel_rfl) (fun _ _ _ h => h) (Or.inl ⟨by rfl, ?hy18⟩) (by assumption) ?rest18
              case hy18 =>
                intro w hSw
                go_simp
                try with_reducible rfl
              try simp only [Act.put, List.setIfInBounds_toArray, List.set_cons_zero, List.set_cons_succ, List.getElem_toArray, List.getElem_cons_succ, List.getElem_cons_zero]
              rw [unhide HQ]
              refine wpAnyH_take (i := 9) (v := ?v19) rfl (by kernel_rfl) (by kernel_rfl) (by kernel_rfl) (fun _ _ _ h => h) (Or.inl ⟨by rfl, ?hy19⟩) (by assumption) ?rest19
              case hy19 =>
                intro w hSw
                go_simp
                try with_reducible rfl
              try simp only [Act.put, List.setIfInBounds_toArray, List.set_cons_zero, List.set_cons_succ, List.getElem_toArray, List.getElem_cons_succ, List.getElem_cons_zero]
              refine wpAnyH_take (i := 10) (v := undef) rfl (by kernel_rfl) (by kernel_rfl) (by kernel_rfl) (fun _ _ _ h => h) (Or.inr ⟨by rfl, rfl⟩) (by assumption) ?_
              try simp only [Act.put, List.setIfInBounds_toArray, List.set_cons_zero, List.set_cons_succ, List.getElem_toArray, List.getElem_cons_succ, List.getElem_cons_zero]
              refine wpAnyH_take (i := 11) (v := undef) rfl (by kernel_rfl) (by kernel_rfl) (by kernel_rfl) (fun _ _ _ h => h) (Or.inr ⟨by rfl, rfl⟩) (by assumption) ?_
              try simp only [Act.put, List.setIfInBounds_toArray, List.set_cons_zero, List.set_cons_succ, List.getElem_toArray, List.getElem_cons_succ, List.getElem_cons_zero]
              refine wpAnyH_take (i := 12) (v := undef) rfl (by kernel_rfl) (by kernel_rfl) (by kernel_rfl) (fun _ _ _ h => h) (Or.inr ⟨by rfl, rfl⟩) (by assumption) ?_
              try simp only [Act.put, List.setIfInBounds_toArray, List.set_cons_zero, List.set_cons_succ, List.getElem_toArray, List.getElem_cons_succ, List.getElem_cons_zero]
              refine wpAnyH_take (i := 13) (v := undef) rfl (by kernel_rfl) (by kernel_rfl) (by kernel_rfl) (fun _ _ _ h => h) (Or.inr ⟨by rfl, rfl⟩) (by assumption) ?_
              try simp only [Act.put, List.setIfInBounds_toArray, List.set_cons_zero, List.set_cons_succ, List.getElem_toArray, List.getElem_cons_succ, List.getElem_cons_zero]
              refine wpAnyH_take (i := 14) (v := ?v20) rfl (by kernel_rfl) (by kernel_rfl) (by kernel_rfl) (fun _ _ _ h => h) (Or.inl ⟨by rfl, ?hy20⟩) (by assumption) ?rest20
              case hy20 =>
                intro w hSw
                go_simp
                try with_reducible rfl
              try simp only [Act.put, List.setIfInBounds_toArray, List.set_cons_zero, List.set_cons_succ, List.getElem_toArray, List.getElem_cons_succ, List.getElem_cons_zero]
              have hG := heap_alloc_new w6 (.cells #[.int .u8 (q.toNat : Int)] 5)
              have o67 := (Only.refl (fun _ => False) w6).alloc (.cells #[.int .u8 (q.toNat : Int)] 5)
              have oC := oC6.trans o67 (fun _ _ e => e)
              have hC := o67.heap hC6 (fun e => e)
              refine wpAnyH_ready (rs := [5]) (by kernel_rfl) (by simp) ?_
              refine AllReadyH.cons rfl (fun K hK => ?_) AllReadyH.nil
              go_simp
              refine hK.out _ _ (⟨oC.cell c0 (fun e => e), oC.cell c2 (fun e => e), oC.cell c3 (fun e => e)⟩) (fun hHeld => ?_)
              clear hK K
              try simp only [Act.put, List.setIfInBounds_toArray, List.set_cons_zero, List.set_cons_succ, List.getElem_toArray, List.getElem_cons_succ, List.getElem_cons_zero]
              generalize w6.alloc (.cells #[.int .u8 (q.toNat : Int)] 5) = w7 at *
              have hcv : (convert 24 9 (.slice (some ⟨w6.heap.size, 0, none⟩) 1 1)).run Tryz.prog w7 = .ok (encStr [q]) w7 := str_conv (has_lit (bs := [q]) (w := w7) hG (by unfold maxLen; simp))
              refine wpAnyH_ready (rs := [6]) (by kernel_rfl) (by simp) ?_
              refine AllReadyH.cons rfl (fun K hK => ?_) AllReadyH.nil
              go_simp
              refine hK.out _ _ (⟨oC.cell c0 (fun e => e), oC.cell c2 (fun e => e), oC.cell c3 (fun e => e)⟩) (fun hHeld => ?_)
              clear hK K
              try simp only [Act.put, List.setIfInBounds_toArray, List.set_cons_zero, List.set_cons_succ, List.getElem_toArray, List.getElem_cons_succ, List.getElem_cons_zero]
              refine wpAnyH_take (i := 15) (v := ?v21) rfl (by kernel_rfl) (by kernel_rfl) (by kernel_rfl) (fun _ _ _ h => h) (Or.inl ⟨by rfl, ?hy21⟩) (by assumption) ?rest21
              case hy21 =>
                intro w hSw
                go_simp
                try with_reducible rfl
              try simp only [Act.put, List.setIfInBounds_toArray, List.set_cons_zero, List.set_cons_succ, List.getElem_toArray, List.getElem_cons_succ, List.getElem_cons_zero]
              obtain ⟨z0, z1, z2, zf⟩ := cells_3 hC
              have hne : wr.heap.size ≠ w5.heap.size := by omega
              have HST := hide (set_3 hC (encStr [q]) (.bool true) (.slice none 0 0))
              have o3 : Only (fun k => k = w5.heap.size) w7 (((w7.setCell ⟨w5.heap.size, 0, none⟩ (encStr [q])).setCell ⟨w5.heap.size, 1, none⟩ (.bool true)).setCell ⟨w5.heap.size, 2, none⟩ (.slice none 0 0)) := (((Only.refl _ _).here 0 _).here 1 _).here 2 _
              refine wpAnyH_ready (rs := [17]) (by kernel_rfl) (by simp) ?_
              refine AllReadyH.cons rfl (fun K hK => ?_) AllReadyH.nil
              go_simp
              refine hK.out _ _ (⟨o3.cell (oC.cell c0 (fun e => e)) hne, o3.cell (oC.cell c2 (fun e => e)) hne, o3.cell (oC.cell c3 (fun e => e)) hne⟩) (fun hHeld => ?_)
              clear hK K
              try simp only [Act.put, List.setIfInBounds_toArray, List.set_cons_zero, List.set_cons_succ, List.getElem_toArray, List.getElem_cons_succ, List.getElem_cons_zero]
              refine wpAnyH_done (by kernel_rfl) ?_ _
              have HF := hide ((unhide HO5).trans ((oC.mono (T := fun k => k = w5.heap.size) (fun _ _ e => e.elim)).trans o3 (fun _ _ e => e)) (fun i hi (e : i = w5.heap.size) => by omega))
              have HX := hide (o3.heap (oC.heap (unhide HB5) (fun e => e)) hne)
              clear z0 z1 z2 zf o3 hHeld
              go_wp2
              go_meet
              case rel => exact ⟨w5.heap.size, [q], true, rfl, unhide HST, by unfold maxLen; simp, unhide HX, by omega, fun e => hne e.symm, unhide HF⟩
          | false =>
            refine wp_region_held_drew (S := (fun w' => w'.cell? ⟨wr.heap.size, 0, none⟩ = some (.int .i64 r.key) ∧ w'.cell? ⟨wr.heap.size, 2, none⟩ = some (.int .i64 r.num) ∧ w'.cell? ⟨wr.heap.size, 3, none⟩ = some (.bool false))) (by kernel_rfl) (⟨c0, c2, c3⟩) (fun hHeld => ?_)
            refine wpAnyH_take (i := 0) (v := ?v22) rfl (by kernel_rfl) (by kernel_rfl) (by kernel_rfl) (fun _ _ _ h => h) (Or.inl ⟨by rfl, ?hy22⟩) (by assumption) ?rest22
            case hy22 =>
              intro w hSw
              go_simp
              try with_reducible rfl
            try simp only [Act.put, List.setIfInBounds_toArray, List.set_cons_zero, List.set_cons_succ, List.getElem_toArray, List.getElem_cons_succ, List.getElem_cons_zero]
            refine wpAnyH_take (i := 1) (v := ?v23) rfl (by kernel_rfl) (by kernel_rfl) (by kernel_rfl) (fun _ _ _ h => h) (Or.inl ⟨by rfl, ?hy23⟩) (by assumption) ?rest23
            case hy23 =>
              intro w hSw
              (obtain ⟨q0, q1, q2⟩ := hSw; go_simp; try with_reducible rfl)
            try simp only [Act.put, List.setIfInBounds_toArray, List.set_cons_zero, List.set_cons_succ, List.getElem_toArray, List.getElem_cons_succ, List.getElem_cons_zero]
            refine wpAnyH_take (i := 7) (v := ?v24) rfl (by kernel_rfl) (by kernel_rfl) (by kernel_rfl) (fun _ _ _ h => h) (Or.inl ⟨by rfl, ?hy24⟩) (by assumption) ?rest24
            case hy24 =>
              intro w hSw
              go_simp
              try with_reducible rfl
            try simp only [Act.put, List.setIfInBounds_toArray, List.set_cons_zero, List.set_cons_succ, List.getElem_toArray, List.getElem_cons_succ, List.getElem_cons_zero]
            refine wpAnyH_take (i := 8) (v := ?v25) rfl (by kernel_rfl) (by kernel_rfl) (by kernel_rfl) (fun _ _ _ h => h) (Or.inl ⟨by rfl, ?hy25⟩) (by assumption) ?rest25
            case hy25 =>
              intro w hSw
              (obtain ⟨q0, q1, q2⟩ := hSw; go_simp; try with_reducible rfl)
            try simp only [Act.put, List.setIfInBounds_toArray, List.set_cons_zero, List.set_cons_succ, List.getElem_toArray, List.getElem_cons_succ, List.getElem_cons_zero]
            refine wpAnyH_ready (rs := [2, 16]) (by kernel_rfl) (by simp) ?_
            refine (AllReadyH.cons rfl (fun K hK => ?_) (AllReadyH.cons rfl (fun K hK => ?_) AllReadyH.nil))
            · skip
              go_simp
              go_wp2_with fail; refine (pick_any r.key 7 _ (by decide) (by decide)).mono ?_; rintro e wx ⟨rfl, hwx⟩; rw [hwx, unhide HP]; clear hwx wx
              refine hK.out _ _ (⟨c0, c2, c3⟩) (fun hHeld => ?_)
              clear hK K
              try simp only [Act.put, List.setIfInBounds_toArray, List.set_cons_zero, List.set_cons_succ, List.getElem_toArray, List.getElem_cons_succ, List.getElem_cons_zero]
              refine wpAnyH_take (i := 3) (v := ?v26) rfl (by kernel_rfl) (by kernel_rfl) (by kernel_rfl) (fun _ _ _ h => h) (Or.inl ⟨by rfl, ?hy26⟩) (by assumption) ?rest26
              case hy26 =>
                intro w hSw
                go_simp
                try with_reducible rfl
              try simp only [Act.put, List.setIfInBounds_toArray, List.set_cons_zero, List.set_cons_succ, List.getElem_toArray, List.getElem_cons_succ, List.getElem_cons_zero]
              refine wpAnyH_take (i := 4) (v := ?v27) rfl (by kernel_rfl) (by kernel_rfl) (by kernel_rfl) (fun _ _ _ h => h) (Or.inl ⟨by rfl, ?hy27⟩) (by assumption) ?rest27
              case hy27 =>
                intro w hSw
                go_simp
                try with_reducible rfl
              try simp only [Act.put, List.setIfInBounds_toArray, List.set_cons_zero, List.set_cons_succ, List.getElem_toArray, List.getElem_cons_succ, List.getElem_cons_zero]
              rw [unhide HQ]
              refine wpAnyH_take (i := 9) (v := ?v28) rfl (by kernel_rfl) (by kernel_rfl) (by kernel_rfl) (fun _ _ _ h => h) (Or.inl ⟨by rfl, ?hy28⟩) (by assumption) ?rest28
              case hy28 =>
                intro w hSw
                go_simp
                try with_reducible rfl
              try simp only [Act.put, List.setIfInBounds_toArray, List.set_cons_zero, List.set_cons_succ, List.getElem_toArray, List.getElem_cons_succ, List.getElem_cons_zero]
              refine wpAnyH_take (i := 10) (v := ?v29) rfl (by kernel_rfl) (by kernel_rfl) (by kernel_rfl) (fun _ _ _ h => h) (Or.inl ⟨by rfl, ?hy29⟩) (by assumption) ?rest29
              case hy29 =>
                intro w hSw
                go_simp
                try with_reducible rfl
              try simp only [Act.put, List.setIfInBounds_toArray, List.set_cons_zero, List.set_cons_succ, List.getElem_toArray, List.getElem_cons_succ, List.getElem_cons_zero]
              refine wpAnyH_take (i := 11) (v := ?v30) rfl (by kernel_rfl) (by kernel_rfl) (by kernel_rfl) (fun _ _ _ h => h) (Or.inl ⟨by rfl, ?hy30⟩) (by assumption) ?rest30
              case hy30 =>
                intro w hSw
                (obtain ⟨q0, q1, q2⟩ := hSw; go_simp; try with_reducible rfl)
              try simp only [Act.put, List.setIfInBounds_toArray, List.set_cons_zero, List.set_cons_succ, List.getElem_toArray, List.getElem_cons_succ, List.getElem_cons_zero]
              refine wpAnyH_take (i := 12) (v := ?v31) rfl (by kernel_rfl) (by kernel_rfl) (by kernel_rfl) (fun _ _ _ h => h) (Or.inl ⟨by rfl, ?hy31⟩) (by assumption) ?rest31
              case hy31 =>
                intro w hSw
                go_simp
                try with_reducible rfl
              try simp only [Act.put, List.setIfInBounds_toArray, List.set_cons_zero, List.set_cons_succ, List.getElem_toArray, List.getElem_cons_succ, List.getElem_cons_zero]
              refine wpAnyH_take (i := 13) (v := ?v32) rfl (by kernel_rfl) (by kernel_rfl) (by kernel_rfl) (fun _ _ _ h => h) (Or.inl ⟨by rfl, ?hy32⟩) (by assumption) ?rest32
              case hy32 =>
                intro w hSw
                go_simp
                try with_reducible rfl
              try simp only [Act.put, List.setIfInBounds_toArray, List.set_cons_zero, List.set_cons_succ, List.getElem_toArray, List.getElem_cons_succ, List.getElem_cons_zero]
              refine wpAnyH_take (i := 14) (v := ?v33) rfl (by kernel_rfl) (by kernel_rfl) (by kernel_rfl) (fun _ _ _ h => h) (Or.inl ⟨by rfl, ?hy33⟩) (by assumption) ?rest33
              case hy33 =>
                intro w hSw
                go_simp
                try with_reducible rfl
              try simp only [Act.put, List.setIfInBounds_toArray, List.set_cons_zero, List.set_cons_succ, List.getElem_toArray, List.getElem_cons_succ, List.getElem_cons_zero]
              refine wpAnyH_ready (rs := [5, 16]) (by kernel_rfl) (by simp) ?_
              refine (AllReadyH.cons rfl (fun K hK => ?_) (AllReadyH.cons rfl (fun K hK => ?_) AllReadyH.nil))
              · skip
                have hG : ((w5.alloc (.cells #[.int .u8 (q.toNat : Int)] 5)).drew).heap[w5.heap.size]? = some (.cells #[.int .u8 (q.toNat : Int)] 5 (0, 0)) := heap_alloc_new w5 _
                have oG : Only (fun _ => False) w5 ((w5.alloc (.cells #[.int .u8 (q.toNat : Int)] 5)).drew) := ((Only.refl _ _).alloc _).drew
                go_simp
                refine hK.out _ _ (⟨oG.cell c0 (fun e => e), oG.cell c2 (fun e => e), oG.cell c3 (fun e => e)⟩) (fun hHeld => ?_)
                clear hK K
                try simp only [Act.put, List.setIfInBounds_toArray, List.set_cons_zero, List.set_cons_succ, List.getElem_toArray, List.getElem_cons_succ, List.getElem_cons_zero]
                generalize (w5.alloc (.cells #[.int .u8 (q.toNat : Int)] 5)).drew = w6 at *
                have hs6 : w5.heap.size < w6.heap.size := lt_of_block hG
                refine wpAnyH_ready (rs := [6, 16]) (by kernel_rfl) (by simp) ?_
                refine (AllReadyH.cons rfl (fun K hK => ?_) (AllReadyH.cons rfl (fun K hK => ?_) AllReadyH.nil))
                · skip
                  have hcv : (convert 24 9 (.slice (some ⟨w5.heap.size, 0, none⟩) 1 1)).run Tryz.prog w6 = .ok (encStr [q]) w6 := str_conv (has_lit (bs := [q]) (w := w6) hG (by unfold maxLen; simp))
                  go_simp
                  refine hK.out _ _ (⟨oG.cell c0 (fun e => e), oG.cell c2 (fun e => e), oG.cell c3 (fun e => e)⟩) (fun hHeld => ?_)
                  clear hK K
                  try simp only [Act.put, List.setIfInBounds_toArray, List.set_cons_zero, List.set_cons_succ, List.getElem_toArray, List.getElem_cons_succ, List.getElem_cons_zero]
                  refine wpAnyH_take (i := 15) (v := ?v34) rfl (by kernel_rfl) (by kernel_rfl) (by kernel_rfl) (fun _ _ _ h => h) (Or.inl ⟨by rfl, ?hy34⟩) (by assumption) ?rest34
                  case hy34 =>
                    intro w hSw
                    go_simp
                    try with_reducible rfl
                  try simp only [Act.put, List.setIfInBounds_toArray, List.set_cons_zero, List.set_cons_succ, List.getElem_toArray, List.getElem_cons_succ, List.getElem_cons_zero]
                  have hC := heap_alloc_new w6 (.cells #[.string ⟨#[]⟩, .bool false, .slice none 0 0] 39)
                  have oC : Only (fun _ => False) w5 (w6.alloc (.cells #[.string ⟨#[]⟩, .bool false, .slice none 0 0] 39)) := oG.alloc _
                  refine wpAnyH_ready (rs := [16]) (by kernel_rfl) (by simp) ?_
                  refine AllReadyH.cons rfl (fun K hK => ?_) AllReadyH.nil
                  go_simp
                  refine hK.out _ _ (⟨oC.cell c0 (fun e => e), oC.cell c2 (fun e => e), oC.cell c3 (fun e => e)⟩) (fun hHeld => ?_)
                  clear hK K
                  try simp only [Act.put, List.setIfInBounds_toArray, List.set_cons_zero, List.set_cons_succ, List.getElem_toArray, List.getElem_cons_succ, List.getElem_cons_zero]
                  generalize w6.alloc (.cells #[.string ⟨#[]⟩, .bool false, .slice none 0 0] 39) = w8 at *
                  obtain ⟨z0, z1, z2, zf⟩ := cells_3 hC
                  have hne : wr.heap.size ≠ w6.heap.size := by omega
                  have HST := hide (set_3 hC (encStr [q]) (.bool (decide (0 < r.num.tmod 3))) (.slice none 0 0))
                  have o3 : Only (fun k => k = w6.heap.size) w8 (((w8.setCell ⟨w6.heap.size, 0, none⟩ (encStr [q])).setCell ⟨w6.heap.size, 1, none⟩ (.bool (decide (0 < r.num.tmod 3)))).setCell ⟨w6.heap.size, 2, none⟩ (.slice none 0 0)) := (((Only.refl _ _).here 0 _).here 1 _).here 2 _
                  refine wpAnyH_ready (rs := [17]) (by kernel_rfl) (by simp) ?_
                  refine AllReadyH.cons rfl (fun K hK => ?_) AllReadyH.nil
                  go_simp
                  refine hK.out _ _ (⟨o3.cell (oC.cell c0 (fun e => e)) hne, o3.cell (oC.cell c2 (fun e => e)) hne, o3.cell (oC.cell c3 (fun e => e)) hne⟩) (fun hHeld => ?_)
                  clear hK K
                  try simp only [Act.put, List.setIfInBounds_toArray, List.set_cons_zero, List.set_cons_succ, List.getElem_toArray, List.getElem_cons_succ, List.getElem_cons_zero]
                  refine wpAnyH_done (by kernel_rfl) ?_ _
                  have HF := hide ((unhide HO5).trans ((oC.mono (T := fun k => k = w6.heap.size) (fun _ _ e => e.elim)).trans o3 (fun _ _ e => e)) (fun i hi (e : i = w6.heap.size) => by omega))
                  have HX := hide (o3.heap (oC.heap (unhide HB5) (fun e => e)) hne)
                  clear z0 z1 z2 zf o3 hHeld
                  go_wp2
                  go_meet
                  case rel => exact ⟨w6.heap.size, [q], (decide (0 < r.num.tmod 3)), rfl, unhide HST, by unfold maxLen; simp, unhide HX, by omega, fun e => hne e.symm, unhide HF⟩
                · skip
                  have hC := heap_alloc_new w6 (.cells #[.string ⟨#[]⟩, .bool false, .slice none 0 0] 39)
                  have oC6 := (Only.refl (fun _ => False) w6).alloc (.cells #[.string ⟨#[]⟩, .bool false, .slice none 0 0] 39)
                  have oC := oG.trans oC6 (fun _ _ e => e)
                  have hG2 := oC6.heap hG (fun e => e)
                  go_simp
                  refine hK.out _ _ (⟨oC.cell c0 (fun e => e), oC.cell c2 (fun e => e), oC.cell c3 (fun e => e)⟩) (fun hHeld => ?_)
                  clear hK K
                  try simp only [Act.put, List.setIfInBounds_toArray, List.set_cons_zero, List.set_cons_succ, List.getElem_toArray, List.getElem_cons_succ, List.getElem_cons_zero]
                  generalize w6.alloc (.cells #[.string ⟨#[]⟩, .bool false, .slice none 0 0] 39) = w8 at *
                  have hcv : (convert 24 9 (.slice (some ⟨w5.heap.size, 0, none⟩) 1 1)).run Tryz.prog w8 = .ok (encStr [q]) w8 := str_conv (has_lit (bs := [q]) (w := w8) hG2 (by unfold maxLen; simp))
                  refine wpAnyH_ready (rs := [6]) (by kernel_rfl) (by simp) ?_
                  refine AllReadyH.cons rfl (fun K hK => ?_) AllReadyH.nil
                  go_simp
                  refine hK.out _ _ (⟨oC.cell c0 (fun e => e), oC.cell c2 (fun e => e), oC.cell c3 (fun e => e)⟩) (fun hHeld => ?_)
                  clear hK K
                  try simp only [Act.put, List.setIfInBounds_toArray, List.set_cons_zero, List.set_cons_succ, List.getElem_toArray, List.getElem_cons_succ, List.getElem_cons_zero]
                  refine wpAnyH_take (i := 15) (v := ?v35) rfl (by kernel_rfl) (by kernel_rfl) (by kernel_rfl) (fun _ _ _ h => h) (Or.inl ⟨by rfl, ?hy35⟩) (by assumption) ?rest35
                  case hy35 =>
                    intro w hSw
                    go_simp
                    try with_reducible rfl
                  try simp only [Act.put, List.setIfInBounds_toArray, List.set_cons_zero, List.set_cons_succ, List.getElem_toArray, List.getElem_cons_succ, List.getElem_cons_zero]
                  obtain ⟨z0, z1, z2, zf⟩ := cells_3 hC
                  have hne : wr.heap.size ≠ w6.heap.size := by omega
                  have HST := hide (set_3 hC (encStr [q]) (.bool (decide (0 < r.num.tmod 3))) (.slice none 0 0))
                  have o3 : Only (fun k => k = w6.heap.size) w8 (((w8.setCell ⟨w6.heap.size, 0, none⟩ (encStr [q])).setCell ⟨w6.heap.size, 1, none⟩ (.bool (decide (0 < r.num.tmod 3)))).setCell ⟨w6.heap.size, 2, none⟩ (.slice none 0 0)) := (((Only.refl _ _).here 0 _).here 1 _).here 2 _
                  refine wpAnyH_ready (rs := [17]) (by kernel_rfl) (by simp) ?_
                  refine AllReadyH.cons rfl (fun K hK => ?_) AllReadyH.nil
                  go_simp
                  refine hK.out _ _ (⟨o3.cell (oC.cell c0 (fun e => e)) hne, o3.cell (oC.cell c2 (fun e => e)) hne, o3.cell (oC.cell c3 (fun e => e)) hne⟩) (fun hHeld => ?_)
                  clear hK K
                  try simp only [Act.put, List.setIfInBounds_toArray, List.set_cons_zero, List.set_cons_succ, List.getElem_toArray, List.getElem_cons_succ, List.getElem_cons_zero]
                  refine wpAnyH_done (by kernel_rfl) ?_ _
                  have HF := hide ((unhide HO5).trans ((oC.mono (T := fun k => k = w6.heap.size) (fun _ _ e => e.elim)).trans o3 (fun _ _ e => e)) (fun i hi (e : i = w6.heap.size) => by omega))
                  have HX := hide (o3.heap (oC.heap (unhide HB5) (fun e => e)) hne)
                  clear z0 z1 z2 zf o3 hHeld
                  go_wp2
                  go_meet
                  case rel => exact ⟨w6.heap.size, [q], (decide (0 < r.num.tmod 3)), rfl, unhide HST, by unfold maxLen; simp, unhide HX, by omega, fun e => hne e.symm, unhide HF⟩
              · skip
                have hC6 : ((w5.alloc (.cells #[.string ⟨#[]⟩, .bool false, .slice none 0 0] 39)).drew).heap[w5.heap.size]? = some (.cells #[.string ⟨#[]⟩, .bool false, .slice none 0 0] 39 (0, 0)) := heap_alloc_new w5 _
                have oC6 : Only (fun _ => False) w5 ((w5.alloc (.cells #[.string ⟨#[]⟩, .bool false, .slice none 0 0] 39)).drew) := ((Only.refl _ _).alloc _).drew
                go_simp
                refine hK.out _ _ (⟨oC6.cell c0 (fun e => e), oC6.cell c2 (fun e => e), oC6.cell c3 (fun e => e)⟩) (fun hHeld => ?_)
                clear hK K
                try simp only [Act.put, List.setIfInBounds_toArray, List.set_cons_zero, List.set_cons_succ, List.getElem_toArray, List.getElem_cons_succ, List.getElem_cons_zero]
                generalize (w5.alloc (.cells #[.string ⟨#[]⟩, .bool false, .slice none 0 0] 39)).drew = w6 at *
                have hs6 : w5.heap.size < w6.heap.size := lt_of_block hC6
                have hG := heap_alloc_new w6 (.cells #[.int .u8 (q.toNat : Int)] 5)
                have o67 := (Only.refl (fun _ => False) w6).alloc (.cells #[.int .u8 (q.toNat : Int)] 5)
                have oC := oC6.trans o67 (fun _ _ e => e)
                have hC := o67.heap hC6 (fun e => e)
                refine wpAnyH_ready (rs := [5]) (by kernel_rfl) (by simp) ?_
                refine AllReadyH.cons rfl (fun K hK => ?_) AllReadyH.nil
                go_simp
                refine hK.out _ _ (⟨oC.cell c0 (fun e => e), oC.cell c2 (fun e => e), oC.cell c3 (fun e => e)⟩) (fun hHeld => ?_)
                clear hK K
                try simp only [Act.put, List.setIfInBounds_toArray, List.set_cons_zero, List.set_cons_succ, List.getElem_toArray, List.getElem_cons_succ, List.getElem_cons_zero]
                generalize w6.alloc (.cells #[.int .u8 (q.toNat : Int)] 5) = w7 at *
                have hcv : (convert 24 9 (.slice (some ⟨w6.heap.size, 0, none⟩) 1 1)).run Tryz.prog w7 = .ok (encStr [q]) w7 := str_conv (has_lit (bs := [q]) (w := w7) hG (by unfold maxLen; simp))
                refine wpAnyH_ready (rs := [6]) (by kernel_rfl) (by simp) ?_
                refine AllReadyH.cons rfl (fun K hK => ?_) AllReadyH.nil
                go_simp
                refine hK.out _ _ (⟨oC.cell c0 (fun e => e), oC.cell c2 (fun e => e), oC.cell c3 (fun e => e)⟩) (fun hHeld => ?_)
                clear hK K
                try simp only [Act.put, List.setIfInBounds_toArray, List.set_cons_zero, List.set_cons_succ, List.getElem_toArray, List.getElem_cons_succ, List.getElem_cons_zero]
                refine wpAnyH_take (i := 15) (v := ?v36) rfl (by kernel_rfl) (by kernel_rfl) (by kernel_rfl) (fun _ _ _ h => h) (Or.inl ⟨by rfl, ?hy36⟩) (by assumption) ?rest36
                case hy36 =>
                  intro w hSw
                  go_simp
                  try with_reducible rfl
                try simp only [Act.put, List.setIfInBounds_toArray, List.set_cons_zero, List.set_cons_succ, List.getElem_toArray, List.getElem_cons_succ, List.getElem_cons_zero]
                obtain ⟨z0, z1, z2, zf⟩ := cells_3 hC
                have hne : wr.heap.size ≠ w5.heap.size := by omega
                have HST := hide (set_3 hC (encStr [q]) (.bool (decide (0 < r.num.tmod 3))) (.slice none 0 0))
                have o3 : Only (fun k => k = w5.heap.size) w7 (((w7.setCell ⟨w5.heap.size, 0, none⟩ (encStr [q])).setCell ⟨w5.heap.size, 1, none⟩ (.bool (decide (0 < r.num.tmod 3)))).setCell ⟨w5.heap.size, 2, none⟩ (.slice none 0 0)) := (((Only.refl _ _).here 0 _).here 1 _).here 2 _
                refine wpAnyH_ready (rs := [17]) (by kernel_rfl) (by simp) ?_
                refine AllReadyH.cons rfl (fun K hK => ?_) AllReadyH.nil
                go_simp
                refine hK.out _ _ (⟨o3.cell (oC.cell c0 (fun e => e)) hne, o3.cell (oC.cell c2 (fun e => e)) hne, o3.cell (oC.cell c3 (fun e => e)) hne⟩) (fun hHeld => ?_)
                clear hK K
                try simp only [Act.put, List.setIfInBounds_toArray, List.set_cons_zero, List.set_cons_succ, List.getElem_toArray, List.getElem_cons_succ, List.getElem_cons_zero]
                refine wpAnyH_done (by kernel_rfl) ?_ _
                have HF := hide ((unhide HO5).trans ((oC.mono (T := fun k => k = w5.heap.size) (fun _ _ e => e.elim)).trans o3 (fun _ _ e => e)) (fun i hi (e : i = w5.heap.size) => by omega))
                have HX := hide (o3.heap (oC.heap (unhide HB5) (fun e => e)) hne)
                clear z0 z1 z2 zf o3 hHeld
                go_wp2
                go_meet
                case rel => exact ⟨w5.heap.size, [q], (decide (0 < r.num.tmod 3)), rfl, unhide HST, by unfold maxLen; simp, unhide HX, by omega, fun e => hne e.symm, unhide HF⟩
            · skip
              have hC6 : ((w5.alloc (.cells #[.string ⟨#[]⟩, .bool false, .slice none 0 0] 39)).drew).heap[w5.heap.size]? = some (.cells #[.string ⟨#[]⟩, .bool false, .slice none 0 0] 39 (0, 0)) := heap_alloc_new w5 _
              have oC6 : Only (fun _ => False) w5 ((w5.alloc (.cells #[.string ⟨#[]⟩, .bool false, .slice none 0 0] 39)).drew) := ((Only.refl _ _).alloc _).drew
              go_simp
              refine hK.out _ _ (⟨oC6.cell c0 (fun e => e), oC6.cell c2 (fun e => e), oC6.cell c3 (fun e => e)⟩) (fun hHeld => ?_)
              clear hK K
              try simp only [Act.put, List.setIfInBounds_toArray, List.set_cons_zero, List.set_cons_succ, List.getElem_toArray, List.getElem_cons_succ, List.getElem_cons_zero]
              generalize (w5.alloc (.cells #[.string ⟨#[]⟩, .bool false, .slice none 0 0] 39)).drew = w6 at *
              have hs6 : w5.heap.size < w6.heap.size := lt_of_block hC6
              refine wpAnyH_ready (rs := [2]) (by kernel_rfl) (by simp) ?_
              refine AllReadyH.cons rfl (fun K hK => ?_) AllReadyH.nil
              go_simp
              go_wp2_with fail; refine (pick_any r.key 7 _ (by decide) (by decide)).mono ?_; rintro e wx ⟨rfl, hwx⟩; rw [hwx, unhide HP]; clear hwx wx
              refine hK.out _ _ (⟨oC6.cell c0 (fun e => e), oC6.cell c2 (fun e => e), oC6.cell c3 (fun e => e)⟩) (fun hHeld => ?_)
              clear hK K
              try simp only [Act.put, List.setIfInBounds_toArray, List.set_cons_zero, List.set_cons_succ, List.getElem_toArray, List.getElem_cons_succ, List.getElem_cons_zero]
              refine wpAnyH_take (i := 3) (v := ?v37) rfl (by kernel_rfl) (by kernel_rfl) (by kernel_rfl) (fun _ _ _ h => h) (Or.inl ⟨by rfl, ?hy37⟩) (by assumption) ?rest37
              case hy37 =>
                intro w hSw
                go_simp
                try with_reducible rfl
              try simp only [Act.put, List.setIfInBounds_toArray, List.set_cons_zero, List.set_cons_succ, List.getElem_toArray, List.getElem_cons_succ, List.getElem_cons_zero]
              refine wpAnyH_take (i := 4) (v := ?v38) rfl (by kernel_rfl) (by kernel_rfl) (by kernel_rfl) (fun _ _ _ h => h) (Or.inl ⟨by rfl, ?hy38⟩) (by assumption) ?rest38
              case hy38 =>
                intro w hSw
                go_simp
                try with_reducible rfl
              try simp only [Act.put, List.setIfInBounds_toArray, List.set_cons_zero, List.set_cons_succ, List.getElem_toArray, List.getElem_cons_succ, List.getElem_cons_zero]
              rw [unhide HQ]
              refine wpAnyH_take (i := 9) (v := ?v39) rfl (by kernel_rfl) (by kernel_rfl) (by kernel_rfl) (fun _ _ _ h => h) (Or.inl ⟨by rfl, ?hy39⟩) (by assumption) ?rest39
              case hy39 =>
                intro w hSw
                go_simp
                try with_reducible rfl
              try simp only [Act.put, List.setIfInBounds_toArray, List.set_cons_zero, List.set_cons_succ, List.getElem_toArray, List.getElem_cons_succ, List.getElem_cons_zero]
              refine wpAnyH_take (i := 10) (v := ?v40) rfl (by kernel_rfl) (by kernel_rfl) (by kernel_rfl) (fun _ _ _ h => h) (Or.inl ⟨by rfl, ?hy40⟩) (by assumption) ?rest40
              case hy40 =>
                intro w hSw
                go_simp
                try with_reducible rfl
              try simp only [Act.put, List.setIfInBounds_toArray, List.set_cons_zero, List.set_cons_succ, List.getElem_toArray, List.getElem_cons_succ, List.getElem_cons_zero]
              refine wpAnyH_take (i := 11) (v := ?v41) rfl (by kernel_rfl) (by kernel_rfl) (by kernel_rfl) (fun _ _ _ h => h) (Or.inl ⟨by rfl, ?hy41⟩) (by assumption) ?rest41
              case hy41 =>
                intro w hSw
                (obtain ⟨q0, q1, q2⟩ := hSw; go_simp; try with_reducible rfl)
              try simp only [Act.put, List.setIfInBounds_toArray, List.set_cons_zero, List.set_cons_succ, List.getElem_toArray, List.getElem_cons_succ, List.getElem_cons_zero]
              refine wpAnyH_take (i := 12) (v := ?v42) rfl (by kernel_rfl) (by kernel_rfl) (by kernel_rfl) (fun _ _ _ h => h) (Or.inl ⟨by rfl, ?hy42⟩) (by assumption) ?rest42
              case hy42 =>
                intro w hSw
                go_simp
                try with_reducible rfl
              try simp only [Act.put, List.setIfInBounds_toArray, List.set_cons_zero, List.set_cons_succ, List.getElem_toArray, List.getElem_cons_succ, List.getElem_cons_zero]
              refine wpAnyH_take (i := 13) (v := ?v43) rfl (by kernel_rfl) (by kernel_rfl) (by kernel_rfl) (fun _ _ _ h => h) (Or.inl ⟨by rfl, ?hy43⟩) (by assumption) ?rest43
              case hy43 =>
                intro w hSw
                go_simp
                try with_reducible rfl
              try simp only [Act.put, List.setIfInBounds_toArray, List.set_cons_zero, List.set_cons_succ, List.getElem_toArray, List.getElem_cons_succ, List.getElem_cons_zero]
              refine wpAnyH_take (i := 14) (v := ?v44) rfl (by kernel_rfl) (by kernel_rfl) (by kernel_rfl) (fun _ _ _ h => h) (Or.inl ⟨by rfl, ?hy44⟩) (by assumption) ?rest44
              case hy44 =>
                intro w hSw
                go_simp
                try with_reducible rfl
              try simp only [Act.put, List.setIfInBounds_toArray, List.set_cons_zero, List.set_cons_succ, List.getElem_toArray, List.getElem_cons_succ, List.getElem_cons_zero]
              have hG := heap_alloc_new w6 (.cells #[.int .u8 (q.toNat : Int)] 5)
              have o67 := (Only.refl (fun _ => False) w6).alloc (.cells #[.int .u8 (q.toNat : Int)] 5)
              have oC := oC6.trans o67 (fun _ _ e => e)
              have hC := o67.heap hC6 (fun e => e)
              refine wpAnyH_ready (rs := [5]) (by kernel_rfl) (by simp) ?_
              refine AllReadyH.cons rfl (fun K hK => ?_) AllReadyH.nil
              go_simp
              refine hK.out _ _ (⟨oC.cell c0 (fun e => e), oC.cell c2 (fun e => e), oC.cell c3 (fun e => e)⟩) (fun hHeld => ?_)
              clear hK K
              try simp only [Act.put, List.setIfInBounds_toArray, List.set_cons_zero, List.set_cons_succ, List.getElem_toArray, List.getElem_cons_succ, List.getElem_cons_zero]
              generalize w6.alloc (.cells #[.int .u8 (q.toNat : Int)] 5) = w7 at *
              have hcv : (convert 24 9 (.slice (some ⟨w6.heap.size, 0, none⟩) 1 1)).run Tryz.prog w7 = .ok (encStr [q]) w7 := str_conv (has_lit (bs := [q]) (w := w7) hG (by unfold maxLen; simp))
              refine wpAnyH_ready (rs := [6]) (by kernel_rfl) (by simp) ?_
              refine AllReadyH.cons rfl (fun K hK => ?_) AllReadyH.nil
              go_simp
              refine hK.out _ _ (⟨oC.cell c0 (fun e => e), oC.cell c2 (fun e => e), oC.cell c3 (fun e => e)⟩) (fun hHeld => ?_)
              clear hK K
              try simp only [Act.put, List.setIfInBounds_toArray, List.set_cons_zero, List.set_cons_succ, List.getElem_toArray, List.getElem_cons_succ, List.getElem_cons_zero]
              refine wpAnyH_take (i := 15) (v := ?v45) rfl (by kernel_rfl) (by kernel_rfl) (by kernel_rfl) (fun _ _ _ h => h) (Or.inl ⟨by rfl, ?hy45⟩) (by assumption) ?rest45
              case hy45 =>
                intro w hSw
                go_simp
                try with_reducible rfl
              try simp only [Act.put, List.setIfInBounds_toArray, List.set_cons_zero, List.set_cons_succ, List.getElem_toArray, List.getElem_cons_succ, List.getElem_cons_zero]
              obtain ⟨z0, z1, z2, zf⟩ := cells_3 hC
              have hne : wr.heap.size ≠ w5.heap.size := by omega
              have HST := hide (set_3 hC (encStr [q]) (.bool (decide (0 < r.num.tmod 3))) (.slice none 0 0))
              have o3 : Only (fun k => k = w5.heap.size) w7 (((w7.setCell ⟨w5.heap.size, 0, none⟩ (encStr [q])).setCell ⟨w5.heap.size, 1, none⟩ (.bool (decide (0 < r.num.tmod 3)))).setCell ⟨w5.heap.size, 2, none⟩ (.slice none 0 0)) := (((Only.refl _ _).here 0 _).here 1 _).here 2 _
              refine wpAnyH_ready (rs := [17]) (by kernel_rfl) (by simp) ?_
              refine AllReadyH.cons rfl (fun K hK => ?_) AllReadyH.nil
              go_simp
              refine hK.out _ _ (⟨o3.cell (oC.cell c0 (fun e => e)) hne, o3.cell (oC.cell c2 (fun e => e)) hne, o3.cell (oC.cell c3 (fun e => e)) hne⟩) (fun hHeld => ?_)
              clear hK K
              try simp only [Act.put, List.setIfInBounds_toArray, List.set_cons_zero, List.set_cons_succ, List.getElem_toArray, List.getElem_cons_succ, List.getElem_cons_zero]
              refine wpAnyH_done (by kernel_rfl) ?_ _
              have HF := hide ((unhide HO5).trans ((oC.mono (T := fun k => k = w5.heap.size) (fun _ _ e => e.elim)).trans o3 (fun _ _ e => e)) (fun i hi (e : i = w5.heap.size) => by omega))
              have HX := hide (o3.heap (oC.heap (unhide HB5) (fun e => e)) hne)
              clear z0 z1 z2 zf o3 hHeld
              go_wp2
              go_meet
              case rel => exact ⟨w5.heap.size, [q], (decide (0 < r.num.tmod 3)), rfl, unhide HST, by unfold maxLen; simp, unhide HX, by omega, fun e => hne e.symm, unhide HF⟩
        case rest =>
          obtain ⟨cb, key, has, rfl, hBC, hkl, hBX, hcb, hcx, ocut⟩ := hcut
          have HBC := hide hBC
          have HBX := hide hBX
          have HOC := hide ocut
          have hcl : cb < wc.heap.size := lt_of_block hBC
          obtain ⟨d0, d1, d2, d3, d4⟩ := cells_5 hBX
          obtain ⟨g0, g1, g2, gf⟩ := cells_3 hBC
          have hnum := (unhide HR).1
          unfold I64 at hnum
          have HODD := hide (unhide HR).2
          clear hBC hBX ocut c0 c1 c2 c3 c4
          go_upto_if 41 with fail
          go_cut [41] (fun _ wx => CutM wr wx (.pointer (some ⟨cb, 0, none⟩)) ∧ wx.heap[wr.heap.size]? = some (.cells #[.int .i64 r.key, .int .i64 r.size, .int .i64 r.num, .bool r.has, encStr r.odd] 37 (0, 0)))
          case first =>
            cases has with
            | false =>
              go_wp2
              go_meet
              case rel => exact ⟨⟨cb, key, false, .slice none 0 0, [], rfl, unhide HBC, hkl, Or.inl ⟨rfl, rfl⟩, by simp, fun h => absurd rfl h, hcb, unhide HOC⟩, unhide HBX⟩
            | true =>
              obtain ⟨sz, hsz⟩ := Int.eq_ofNat_of_zero_le (Int.emod_nonneg r.size (by decide : (40 : Int) ≠ 0))
              have HSZ := hide hsz
              have hsz4 := Int.emod_lt_of_pos r.size (by decide : (0 : Int) < 40)
              rw [hsz] at hsz4
              clear hsz
              go_wp2
              refine wp_region_held_drew (S := (fun w' => w'.cell? ⟨wr.heap.size, 1, none⟩ = some (.int .i64 r.size) ∧ w'.cell? ⟨wr.heap.size, 2, none⟩ = some (.int .i64 r.num))) (by kernel_rfl) (⟨d1, d2⟩) (fun hHeld => ?_)
              refine wpAnyH_take (i := 0) (v := ?v46) rfl (by kernel_rfl) (by kernel_rfl) (by kernel_rfl) (fun _ _ _ h => h) (Or.inl ⟨by rfl, ?hy46⟩) (by assumption) ?rest46
              case hy46 =>
                intro w hSw
                go_simp
                try with_reducible rfl
              try simp only [Act.put, List.setIfInBounds_toArray, List.set_cons_zero, List.set_cons_succ, List.getElem_toArray, List.getElem_cons_succ, List.getElem_cons_zero]
              refine wpAnyH_take (i := 1) (v := ?v47) rfl (by kernel_rfl) (by kernel_rfl) (by kernel_rfl) (fun _ _ _ h => h) (Or.inl ⟨by rfl, ?hy47⟩) (by assumption) ?rest47
              case hy47 =>
                intro w hSw
                (obtain ⟨q0, q1⟩ := hSw; go_simp; try with_reducible rfl)
              try simp only [Act.put, List.setIfInBounds_toArray, List.set_cons_zero, List.set_cons_succ, List.getElem_toArray, List.getElem_cons_succ, List.getElem_cons_zero]
              refine wpAnyH_take (i := 3) (v := ?v48) rfl (by kernel_rfl) (by kernel_rfl) (by kernel_rfl) (fun _ _ _ h => h) (Or.inl ⟨by rfl, ?hy48⟩) (by assumption) ?rest48
              case hy48 =>
                intro w hSw
                go_simp
                try with_reducible rfl
              try simp only [Act.put, List.setIfInBounds_toArray, List.set_cons_zero, List.set_cons_succ, List.getElem_toArray, List.getElem_cons_succ, List.getElem_cons_zero]
              refine wpAnyH_take (i := 4) (v := ?v49) rfl (by kernel_rfl) (by kernel_rfl) (by kernel_rfl) (fun _ _ _ h => h) (Or.inl ⟨by rfl, ?hy49⟩) (by assumption) ?rest49
              case hy49 =>
                intro w hSw
                (obtain ⟨q0, q1⟩ := hSw; go_simp; try with_reducible rfl)
              try simp only [Act.put, List.setIfInBounds_toArray, List.set_cons_zero, List.set_cons_succ, List.getElem_toArray, List.getElem_cons_succ, List.getElem_cons_zero]
              refine wpAnyH_ready (rs := [2]) (by kernel_rfl) (by simp) ?_
              refine AllReadyH.cons rfl (fun K hK => ?_) AllReadyH.nil
              go_simp
              go_wp2_with fail; refine (pick_any r.size 40 _ (by decide) (by decide)).mono ?_; rintro e wx ⟨rfl, hwx⟩; rw [hwx, unhide HSZ]; clear hwx wx
              refine hK.out _ _ (⟨d1, d2⟩) (fun hHeld => ?_)
              clear hK K
              try simp only [Act.put, List.setIfInBounds_toArray, List.set_cons_zero, List.set_cons_succ, List.getElem_toArray, List.getElem_cons_succ, List.getElem_cons_zero]
              refine wpAnyH_ready (rs := [5]) (by kernel_rfl) (by simp) ?_
              refine AllReadyH.cons rfl (fun K hK => ?_) AllReadyH.nil
              go_simp
              go_wp2_with fail; refine (handBytes_any sz r.num _ (by omega) hnum.1 hnum.2).mono ?_; rintro e w7 ⟨y7, rfl, hy7⟩; have o7 : Only (fun _ => False) wc w7 := ((Only.refl _ _).drew).trans hy7.only (fun _ _ e => e)
              refine hK.out _ _ (⟨o7.cell d1 (fun e => e), o7.cell d2 (fun e => e)⟩) (fun hHeld => ?_)
              clear hK K
              try simp only [Act.put, List.setIfInBounds_toArray, List.set_cons_zero, List.set_cons_succ, List.getElem_toArray, List.getElem_cons_succ, List.getElem_cons_zero]
              have HY7 : Hid (Has w7 y7 (rawBytes sz r.num) ∧ ∀ j, blk y7 = some j → wc.heap.size ≤ j) := ⟨Has.ofOwns hy7.own, fun j hj => owns_blk hy7.own j hj⟩
              obtain ⟨yo, yc, hys, _⟩ := (unhide HY7).1.shape
              rw [rawBytes_length] at hys
              subst hys
              have hB7 := o7.heap (unhide HBC) (fun e => e)
              have hX7 := o7.heap (unhide HBX) (fun e => e)
              obtain ⟨z0, z1, z2, zf⟩ := cells_3 hB7
              have o8 : Only (fun k => k = cb) w7 (w7.setCell ⟨cb, 2, none⟩ (.slice yo sz yc)) := (Only.refl _ _).here 2 _
              have HST : Hid ((w7.setCell ⟨cb, 2, none⟩ (.slice yo sz yc)).heap[cb]? = some (.cells #[encStr key, .bool true, .slice yo sz yc] 39 (0, 0))) := by
                show _ = _
                rw [two_setCell hB7]
                rfl
              have hrl := rawBytes_length sz r.num
              have hgw := (unhide HOC).size
              refine wpAnyH_take (i := 6) (v := ?v50) rfl (by kernel_rfl) (by kernel_rfl) (by kernel_rfl) (fun _ _ _ h => h) (Or.inl ⟨by rfl, ?hy50⟩) (by assumption) ?rest50
              case hy50 =>
                intro w hSw
                go_simp
                try with_reducible rfl
              try simp only [Act.put, List.setIfInBounds_toArray, List.set_cons_zero, List.set_cons_succ, List.getElem_toArray, List.getElem_cons_succ, List.getElem_cons_zero]
              refine wpAnyH_ready (rs := [7]) (by kernel_rfl) (by simp) ?_
              refine AllReadyH.cons rfl (fun K hK => ?_) AllReadyH.nil
              go_simp
              refine hK.out _ _ (⟨o8.cell (o7.cell d1 (fun e => e)) (fun e => hcx e.symm), o8.cell (o7.cell d2 (fun e => e)) (fun e => hcx e.symm)⟩) (fun hHeld => ?_)
              clear hK K
              try simp only [Act.put, List.setIfInBounds_toArray, List.set_cons_zero, List.set_cons_succ, List.getElem_toArray, List.getElem_cons_succ, List.getElem_cons_zero]
              refine wpAnyH_done (by kernel_rfl) ?_ _
              have HM : Hid (CutM wr (w7.setCell ⟨cb, 2, none⟩ (.slice yo sz yc)) (.pointer (some ⟨cb, 0, none⟩)) ∧ (w7.setCell ⟨cb, 2, none⟩ (.slice yo sz yc)).heap[wr.heap.size]? = some (.cells #[.int .i64 r.key, .int .i64 r.size, .int .i64 r.num, .bool r.has, encStr r.odd] 37 (0, 0))) :=
                ⟨⟨cb, key, true, .slice yo sz yc, rawBytes sz r.num, rfl, unhide HST, hkl, (unhide HY7).1.only o8 (fun _ j hj e => by have := (unhide HY7).2 j hj; omega), by omega, fun _ j hj => ⟨by have := (unhide HY7).2 j hj; omega, by have := (unhide HY7).2 j hj; omega⟩, hcb, ((unhide HOC).trans o7 (fun _ _ e => e)).trans o8 (fun i hi e => by omega)⟩, o8.heap hX7 (fun e => hcx e.symm)⟩
              clear o7 o8 z0 z1 z2 zf hB7 hX7 hHeld hy7 hrl
              go_wp2
              go_meet
              case rel => exact unhide HM
          case rest =>
            rename_i wd _
            obtain ⟨⟨cb', key1, has1, x1, bs1, hcb', hB1, hkl1, hx1, hbl1, hxb1, hcb1, o1⟩, hX1⟩ := hcut
            cases hcb'
            have HB1 := hide hB1
            have HX1 := hide hX1
            have HXH := hide hx1
            have HXB := hide hxb1
            have HO1 := hide o1
            clear hB1 hX1 hx1 hxb1 o1 HBC HBX HOC g0 g1 g2 gf d0 d1 d2 d3 d4
            obtain ⟨d0, d1, d2, d3, d4⟩ := cells_5 (unhide HX1)
            obtain ⟨g0, g1, g2, gf⟩ := cells_3 (unhide HB1)
            go_upto_if 52 with fail
            obtain ⟨x1o, x1c, hx1s, _⟩ := (unhide HXH).shape
            subst hx1s
            go_cut [52] (fun _ wx => CutM wr wx (.pointer (some ⟨cb, 0, none⟩)))
            case first =>
              by_cases h41 : r.num.tmod 41 = 40
              · have h41b : (r.num.tmod 41 == 40) = true := by simp [h41]
                rw [h41b]
                clear h41 h41b
                have o9 : Only (fun k => k = cb) wc (wc.setCell ⟨cb, 0, none⟩ (encStr r.odd)) := (Only.refl _ _).here 0 _
                have hB9 : (wc.setCell ⟨cb, 0, none⟩ (encStr r.odd)).heap[cb]? = some (.cells #[encStr r.odd, .bool has1, .slice x1o bs1.length x1c] 39 (0, 0)) := by
                  rw [two_setCell (unhide HB1)]
                  rfl
                have HM : Hid (CutM wr (wc.setCell ⟨cb, 0, none⟩ (encStr r.odd)) (.pointer (some ⟨cb, 0, none⟩))) :=
                  ⟨cb, r.odd, has1, .slice x1o bs1.length x1c, bs1, rfl, hB9, unhide HODD, (unhide HXH).only o9 (fun hne j hj e => (unhide HXB hne j hj).2 e), hbl1, unhide HXB, hcb, (unhide HO1).trans o9 (fun i hi e => by omega)⟩
                clear o9 hB9
                go_wp2
                go_meet
                case rel => exact unhide HM
              · have h41b : (r.num.tmod 41 == 40) = false := by simp [h41]
                rw [h41b]
                clear h41 h41b
                go_wp2
                go_meet
                case rel => exact ⟨cb, key1, has1, _, bs1, rfl, unhide HB1, hkl1, unhide HXH, hbl1, unhide HXB, hcb, unhide HO1⟩
            case rest =>
              obtain ⟨cb2, key2, has2, x2, bs2, hcb2, hB2, hkl2, hx2, hbl2, hxb2, hcbw, o2⟩ := hcut
              cases hcb2
              obtain ⟨x2o, x2c, hx2s, _⟩ := hx2.shape
              subst hx2s
              have HXH2 := hide hx2
              have HXB2 := hide hxb2
              have HO2 := hide o2
              have HRL := hide (unhide HROW).lt
              obtain ⟨zs, hzs, own4, each4⟩ := ((unhide HROW).same o2).own
              have hzl : zs.length = k := by have := congrArg List.length hzs; rw [List.length_map, unhide HCL] at this; exact this
              rw [unhide HCL] at own4
              have HZ := hide hzs
              have HOW := hide own4
              have HEA := hide each4
              have HZL := hide hzl
              have hwr := (unhide HO).size
              have hwc := (unhide HO2).size
              have hblk : ∀ o : Obj, (wc.alloc o).heap[wc.heap.size]? = some o := fun o => heap_alloc_new wc o
              clear hzs own4 each4 hzl hx2 hxb2 o2 HB1 HX1 HXH HXB HO1 g0 g1 g2 gf d0 d1 d2 d3 d4 HR HODD
              obtain ⟨g0, g1, g2, gf⟩ := cells_3 hB2
              clear hB2
              go_wp2_with (at_builtin; go_loud (refine wpList_append_lies _ rfl (.tmp 56) (.tmp 58) 23 rfl w.heap.size 39 i0 _ 3 48 Tryz.underlying23 hi hz0 hz1 hz2 rfl (by decide) _ k (zs.flatMap zc) rfl ((unhide HOW).alloc _) ⟨wc.heap.size, 0, none⟩ 1 1 (zc (.slice x2o bs2.length x2c, ⟨key2, has2, bs2⟩)) rfl rfl (World.news_of_block (hblk _)) (by simp [zc, Value.oneCell']) (by decide) (by unfold maxLen; omega) (by omega) (by simp; omega) _ rfl ?_; intro g cap5 w9 own9 gr9 at9 lt9))
              have oA : Only (fun _ => False) wc (wc.alloc (.cells #[encStr key2, .bool has2, .slice x2o bs2.length x2c] 39)) := (Only.refl _ _).alloc _
              have hzk := unhide HZL
              subst hzk
              have hP := RowC.pushed (Q := fun k => w.heap.size ≤ k) (unhide HOW) (unhide HEA) (unhide HXH2) (fun hne j hj => ⟨by have := (unhide HXB2 hne j hj).1; omega, fun e => by have := (unhide HRL j e).2; have := (unhide HXB2 hne j hj).1; omega⟩) oA own9 gr9 at9
              rw [unhide HZ] at hP
              have HP9 := hide hP
              clear hP oA own9 gr9 at9 lt9
              go_roundw
              case rel =>
                refine ⟨zs.length + 1, cs ++ [⟨key2, has2, bs2⟩], by omega, by omega, by go_num, by rw [List.length_append, unhide HCL]; rfl, fun c hc => ?_, (unhide HP9).1, ((unhide HO).trans (unhide HO2) (fun _ _ e => e)).trans (unhide HP9).2 (fun i hi e => by have := (unhide HRL i e).1; omega)⟩
                rcases List.mem_append.1 hc with hc | hc
                · exact unhide HOK c hc
                · rw [List.mem_singleton.1 hc]
                  exact ⟨hkl2, hbl2⟩
              case measure => simp [intOf]; omega
      · go_wp2
        go_ret
        exact ⟨_, cs, rfl, unhide HROW, by have := unhide HCL; omega, unhide HOK, unhide HO⟩
    · go_wp2
      go_ret
      exact ⟨_, cs, rfl, unhide HROW, by have := unhide HCL; omega, unhide HOK, unhide HO⟩
end St
end Go.Proofs.YtmcobkcnpnfobaaGreat
