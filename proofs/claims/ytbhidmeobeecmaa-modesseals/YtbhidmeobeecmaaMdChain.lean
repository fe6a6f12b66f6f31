/-
  modes.chain.
-/
import Derived.Test.YtbhidmeobeecmaaMdXor
namespace Go.Proofs.Ytbhidmeobeecmaa
open Go.RowKit
set_option linter.unusedSimpArgs false
set_option linter.unusedVariables false
namespace Md
open Ae (upto upto_succ upto_length blkOf blkOf_length zero16 Arr bflat added added_length ag_one range_only after execOp_rowBlk)
attribute [local go_sem ↓] Md.execOp_loadBlk Md.execOp_rowBlk

theorem loadM {w : World} {b o : Nat} {s : List UInt8} (h : w.rangeAt b o (s.map bv)) (hs : s.length = 16) : (loadBlk (.pointer (some ⟨b, o, none⟩))).run Try.prog w = .ok (.agg (s.map bv).toArray) w :=
  run_loadAt_mid (P := Try.prog) w b o 44 (s.map bv) _ h Try.underMB rfl (by rw [Try.sizeMB]; simp [hs])

/-- one block more behind a row of blocks that is owned -/
theorem push16 (w : World) (base : Nat) (v : Value) (n : Nat) (xs l : List UInt8) (hl : l.length = 16) (own : w.ownsRow base 44 16 v n (xs.map bv)) (hn : (n + 1) * 16 ≤ 140737488355328) (hb : base ≤ w.heap.size) :
    ∃ g cap w2, (Builtin.append_ #[46, 46] 46 #[v, .slice (some ⟨w.heap.size, 0, none⟩) 1 1]).run Try.prog (w.alloc (.cells (l.map bv).toArray 44)) = .ok (.slice (some ⟨g, 0, none⟩) (n + 1) cap) w2 ∧
      w2.ownsRow base 44 16 (.slice (some ⟨g, 0, none⟩) (n + 1) cap) (n + 1) ((xs ++ l).map bv) ∧ Only (fun j => v.ownBlock = some j) w w2 := by
  obtain ⟨i0, hi, hz0, hz1, hz2⟩ := info_parts Try.infoMB
  have hArr := Arr.new w 44 l _ rfl
  obtain ⟨v', w2, hrun, own2, gr, _, _⟩ := run_append_own_at (P := Try.prog) (w.alloc (.cells (l.map bv).toArray 44)) base 46 46 44 i0 (.agg (zero16.map bv).toArray) 16 16 Try.underMBs hi hz0 hz1 hz2 rfl (by decide) v n _ (own.alloc _)
    ⟨w.heap.size, 0, none⟩ 1 1 (l.map bv) (by simp [hl]) (fun j u hu => by rw [addr_add _ rfl, Nat.zero_add]; have := hArr.range j u hu; rwa [Nat.zero_add] at this) (fun u hu => by obtain ⟨y, _, rfl⟩ := List.mem_map.1 hu; rfl) (by unfold maxLen; omega) (by omega) (by simp; omega)
  obtain ⟨g, cap, rfl⟩ := ownsRow_succ own2
  rw [← List.map_append] at own2
  exact ⟨g, cap, w2, hrun, own2, ((Only.refl _ w).alloc _).grown gr (fun j hj hlt => hj)⟩

theorem wpList_append_run {P : Program} {w : World} {ops : Array Oper} {rest : List Oper} {o : Oper} {a : Act} {Q : Exit → Act → World → Prop} (hgd : o.guard = none) (s x : Operand) (t : TypeId)
    (ho : o.op = .call { callee := .builtin .append, args := #[s, x], argTypes := #[t, t] }) (v xv v' : Value) (w' : World) (hs : a.eval s = v) (hxv : a.eval x = xv)
    (hr : (Builtin.append_ #[t, t] o.type #[v, xv]).run P w = .ok v' w') (h : wpList P ops Q rest (a.put o.dst v') w') : wpList P ops Q (o :: rest) a w :=
  wpList_plain hgd fun _ hK => by
    unfold Oper.wp execOp
    simp only [ho, resolve, invoke, builtin, Sem.run_bind, Sem.run_pure, Result.andThen_ok, List.map_toArray, List.map_cons, List.map_nil, hs, hxv, hr]
    exact hK _ _ h

/-- calls that seal a block: what f says, in every world that has come of w -/
def Acts (w : World) (fn : FuncId) (cb : Nat) (f : List UInt8 → List UInt8) : Prop := ∀ (s : List UInt8) (W : World), s.length = 16 → Only (fun _ => False) w W → Calls Try.prog fn #[.pointer (some ⟨cb, 0, none⟩), .agg (s.map bv).toArray] W fun e w' => e = .returned (.agg ((f s).map bv).toArray) ∧ Only (fun _ => False) W w'
theorem Acts.new {w w' : World} {fn : FuncId} {cb : Nat} {f : List UInt8 → List UInt8} (h : Acts w fn cb f) (o : Only (fun _ => False) w w') : Acts w' fn cb f := fun s W hs ho => h s W hs (o.trans ho (fun _ _ e => e))

set_option maxRecDepth 100000 in
set_option maxHeartbeats 2000000 in
theorem chain_any (cb m : Nat) (f : List UInt8 → List UInt8) (hf : ∀ s, s.length = 16 → (f s).length = 16) (iv bs : List UInt8) (hv : iv.length = 16) (hb : bs.length = 16 * m) (hm : m ≤ 8796093022208) (v : Value) (w : World) (HS : Hid (Acts w 24 cb f)) (base : Nat)
    (hown : w.ownsRow base 44 16 v m (bflat bs (upto m))) :
    Calls Try.prog 28 #[.pointer (some ⟨cb, 0, none⟩), .agg (iv.map bv).toArray, v] w fun e w' => ∃ v', e = .returned v' ∧ w'.ownsRow w.heap.size 44 16 v' m ((chT f iv bs m).map bv) ∧ Only (fun _ => False) w w' := by
  obtain ⟨ao, cap, rfl⟩ := ownsRow_shape hown
  have A4 := Arr.new w 44 iv _ rfl
  have O4 := (Only.refl (fun _ => False) w).alloc (.cells (iv.map bv).toArray 44)
  have HA4 := hide A4
  have HO4 := hide O4
  have HOWN := hide hown
  have hsz : (w.alloc (.cells (iv.map bv).toArray 44)).heap.size = w.heap.size + 1 := by simp
  have HSZ := hide hsz
  clear A4 O4 hown hsz
  go_enter Try.func28, Try.ntmps28
  go_upto_region 1 with fail
  generalize w.alloc (.cells (iv.map bv).toArray 44) = w4 at *
  generalize hb4 : w.heap.size = b4 at *
  have HB4 := hide hb4
  clear hb4
  go_wp2
  go_loopw [7, 9, 12] (fun s _ i wr => ∃ k : Nat, k ≤ m ∧ i = .int .i64 k ∧ Hid (wr.ownsRow (b4 + 1) 44 16 s k ((chT f iv bs k).map bv)) ∧ Hid (Arr wr b4 44 (ch f iv bs k)) ∧ Hid (Only (fun j => j = b4) w4 wr)) (fun _ _ i _ => m - (intOf i).toNat)
  case atStart => exact ⟨0, Nat.zero_le _, rfl, World.ownsRow_nil _ _ _ _, HA4, Only.refl _ _⟩
  case round =>
    rename World => wr
    obtain ⟨k, hk, rfl, hrow, har, hor⟩ := hrel
    by_cases hlt : k < m
    · obtain ⟨g, rfl⟩ : ∃ g, ao = some ⟨g, 0, none⟩ := by
        rcases (unhide HOWN).2 with ⟨e, _⟩ | ⟨g, c2, cur, e, _⟩
        · simp at e; omega
        · simp only [Value.slice.injEq] at e
          exact ⟨g, e.1⟩
      have hgl : g < b4 := by rw [← unhide HB4]; exact ((unhide HOWN).lt g rfl).2
      have OW : Hid (Only (fun _ => False) w wr) := (unhide HO4).trans (unhide hor) (fun j hj e => by have := unhide HB4; omega)
      obtain ⟨B, hB⟩ : ∃ B, B = blkOf bs k := ⟨_, rfl⟩
      have hBl : B.length = 16 := by rw [hB]; exact blkOf_length bs m k hb hlt
      have hrg : wr.rangeAt g (k * 16) (B.map bv) := by
        rw [hB]
        exact range_only (row_range (f := fun k => (blkOf bs k).map bv) (xs := upto m) (unhide HOWN) (fun x hx => by have : x < m := List.mem_range.1 hx; rw [List.length_map, blkOf_length bs m x hb this]) (upto_length m) k k (by simp [upto, hlt])) (unhide OW) (fun e => e)
      have hld := loadM hrg hBl
      obtain ⟨C, hC⟩ : ∃ C, C = ch f iv bs k := ⟨_, rfl⟩
      have hCl : C.length = 16 := by rw [hC]; exact ch_length f hf iv bs hv m hb k hk
      rw [← hC] at har
      have hN1 : Hid (ch f iv bs (k + 1) = f (added B C)) := by rw [hB, hC]; rfl
      have hN2 : Hid (chT f iv bs (k + 1) = chT f iv bs k ++ ch f iv bs (k + 1)) := rfl
      have hal := added_length hBl hCl
      have hfl := hf _ hal
      obtain ⟨wy, b9, ey, eb9, a9, o9⟩ := made16 wr B hBl
      have ht2 : (wr.alloc (.cells (zero16.map bv).toArray 44)).there wr.heap.size 0 (B.map bv).toArray.size := there16 (Arr.new wr 44 zero16 _ rfl) rfl hBl
      have hz2 := size16s hBl
      have HFL := hide hfl
      have HAL := hide hal
      have HBL := hide hBl
      have HCL := hide hCl
      have HRG := hide hrg
      clear hB hC hal hfl hrg
      have hkm : (k : Int) < (m : Int) := by omega
      go_upto_region 5 with (refine wpList_store_mid rfl 44 (.tmp 9) (.tmp 15) rfl wr.heap.size 0 (B.map bv).toArray rfl rfl ht2 hz2 (ag_one _) ?_)
      rw [Ae.zeros_eq, ← ey, ← eb9]
      have A9 := hide a9
      have hl9 := loadM a9.range (unhide HBL)
      have A4y := hide ((unhide har).only o9 (fun e => e))
      have hl4 := loadM (unhide A4y).range (unhide HCL)
      have OWY := hide ((unhide OW).trans o9 (fun _ _ e => e))
      have OR9 := hide o9
      have hsz9 := o9.size
      clear ey eb9 a9 o9 ht2 hz2 hld hBl hCl
      go_wp2_with fail
      refine (xored_any B C wy (unhide HBL) (unhide HCL)).mono ?_
      rintro e x1 ⟨rfl, y1⟩
      have O1 := hide ((unhide OWY).trans y1 (fun _ _ e => e))
      have Y1 := hide y1
      clear y1 hl9 hl4
      go_wp2_with fail
      refine (unhide HS (added B C) x1 (unhide HAL) (unhide O1)).mono ?_
      rintro e x2 ⟨rfl, y2⟩
      have A4x := hide ((unhide A4y).only ((unhide Y1).trans y2 (fun _ _ e => e)) (fun e => e))
      have ht3 := there16 (unhide A4x) (unhide HCL) (unhide HFL)
      have hz3 := size16s (unhide HFL)
      obtain ⟨wz, ez, az, oz⟩ := restored x2 b4 C (f (added B C)) (unhide A4x) (by rw [unhide HFL, unhide HCL])
      have OX : Hid (Only (fun _ => False) wr x2) := ((unhide OR9).trans (unhide Y1) (fun _ _ e => e)).trans y2 (fun _ _ e => e)
      clear y2
      go_upto_region 6 with (refine wpList_store_mid rfl 44 (.tmp 4) (.tmp 20) rfl b4 0 ((f (added B C)).map bv).toArray rfl rfl ht3 hz3 (ag_one _) ?_)
      rw [← unhide hN1] at *
      first
        | rw [← ez]
        | (simp only [List.toList_toArray]; rw [← ez])
      obtain ⟨L, hL⟩ : ∃ L, L = ch f iv bs (k + 1) := ⟨_, rfl⟩
      rw [← hL] at HFL az hN2 ⊢
      have HLL := hide hL
      clear hL
      have hlz := loadM az.range (unhide HFL)
      have hbd : (rowBlk (.agg (L.map bv).toArray)).run Try.prog wz = .ok (.slice (some ⟨wz.heap.size, 0, none⟩) 1 1) (wz.alloc (.cells (L.map bv).toArray 44)) := buildSlice_blk L (unhide HFL) wz
      have hrz := oz.owns ((unhide OX).owns (unhide hrow) (fun _ _ e => e)) (fun j hj e => by have := ((unhide hrow).lt j hj).1; omega)
      obtain ⟨g2, cap2, w2, hrun, own2, op2⟩ := push16 wz (b4 + 1) u7 k (chT f iv bs k) L (unhide HFL) hrz (by omega) (by have h1 := (unhide OX).size; have h2 := oz.size; have h3 := (unhide hor).size; have h4 := unhide HSZ; omega)
      have A5 : Hid (Arr w2 b4 44 L) := az.only op2 (fun e => by have := ((unhide hrow).lt b4 e).1; omega)
      have OWN2 : Hid (w2.ownsRow (b4 + 1) 44 16 (.slice (some ⟨g2, 0, none⟩) (k + 1) cap2) (k + 1) ((chT f iv bs (k + 1)).map bv)) := by rw [unhide hN2]; exact own2
      have OR2 : Hid (Only (fun j => j = b4) w4 w2) := by
        have h1 : Only (fun j => j = b4) w4 wz := ((unhide hor).trans (unhide OX) (fun _ _ e => e.elim)).trans oz (fun _ _ e => e)
        exact h1.trans op2 (fun j hj e => by have := ((unhide hrow).lt j e).1; have h4 := unhide HSZ; omega)
      have HRUN := hide hrun
      clear hrun own2 op2 az oz hrz ez OX hN1 hN2 hor hrow har A4x A4y OWY OR9 O1 Y1 A9 ht3 hz3 HRG HCL HBL HAL
      go_wp2_with (at_builtin; refine wpList_append_run rfl (.tmp 21) (.tmp 23) 46 rfl _ _ _ _ rfl rfl (unhide HRUN) ?_)
      go_roundw
      case rel => exact ⟨k + 1, by omega, by go_num, OWN2, by rw [← unhide HLL]; exact A5, OR2⟩
      case measure => simp [intOf]; omega
    · obtain rfl : k = m := by omega
      have OW : Hid (Only (fun _ => False) w wr) := (unhide HO4).trans (unhide hor) (fun j hj e => by have := unhide HB4; omega)
      go_wp2
      go_ret
      refine ⟨_, rfl, ?_, unhide OW⟩
      rw [unhide HB4]
      exact ownsRow_base (unhide hrow) (by omega)
end Md
end Go.Proofs.Ytbhidmeobeecmaa
