/-
  append(u, make([]byte, 16)...), onto a row of bytes that is owned.
  locksmithlaw9.some.
-/
import Derived.Test.YtdmcnblnoiahcaaMdA
import Derived.Deep.AppendSrc
import Derived.Test.YtdmcnblnoiahcaaMdFine
import Derived.Test.YtdmcnblnoiahcaaAeLaw
import Derived.Test.YtdmcnblnoiahcaaHand
import Derived.Test.YtdmcnblnoiahcaaHandBytes
namespace Go.Proofs.Ytdmcnblnoiahcaa
open Go.RowKit
set_option linter.unusedSimpArgs false
set_option linter.unusedVariables false
namespace Md
open Ae (zero16)

def z16 : List Value := List.replicate 16 (.int .u8 0)
theorem z16_one : ∀ u ∈ z16, u.oneCell' = true := fun u hu => by rw [List.eq_of_mem_replicate hu]; rfl
theorem z16_bv : z16 = zero16.map bv := by simp [z16, zero16, bv]
theorem zeroCells_16 : Builtin.zeroCells #[Value.int IntKind.u8 0] 16 = z16.toArray := by kernel_rfl

theorem room_z (w : World) (ty b off sLen sCap : Nat) (hroom : sLen + 16 ≤ sCap) (hc : ∀ j, j < 16 → (w.cell? ⟨b, off + sLen + j, none⟩).isSome = true) (hf : ∀ j, j < 16 → w.frozen? ⟨b, off + sLen + j, none⟩ = false) :
    (Builtin.append_ #[22, 3] ty #[.slice (some ⟨b, off, none⟩) sLen sCap, .int .i64 16]).run Try.prog w = .ok (.slice (some ⟨b, off, none⟩) (sLen + 16) sCap) (w.setCells b (off + sLen) z16) := by
  obtain ⟨i, hi, hz, hsize, hby⟩ := info_parts Try.info5
  have hst := run_storeCells_cells (P := Try.prog) b (off + sLen) z16 0 w (by simpa [z16] using hc) (by simpa [z16] using hf) z16_one
  simp only [Nat.add_zero] at hst
  have hw : IntKind.i64.wrap 16 = 16 := by decide
  have hzc : Builtin.zeroCells (Value.int IntKind.u8 0).cells 16 = z16.toArray := zeroCells_16
  simp [Builtin.append_, run_underlying Try.underlying22, run_underlying Try.underlying3, sizeOf, typeInfo, zeroValue, hi, hz, hsize, hby, asInt, asIntOf, hw, hroom, Addr.add_lit, hzc, hst]

theorem grow_z (w : World) (ty : Nat) (base : Option Addr) (sLen sCap : Nat) (olds : List Value)
    (hold : (Builtin.firstCells 1 sLen (.slice base sLen sCap)).run Try.prog w.drew = .ok olds.toArray w.drew) (hg : sCap < sLen + 16) (hs : sLen ≤ 16) :
    ∃ (C : Nat) (rest : List Value), sLen + 16 ≤ C ∧ C ≤ maxLen ∧ (Builtin.append_ #[22, 3] ty #[.slice base sLen sCap, .int .i64 16]).run Try.prog w =
      .ok (.slice (some ⟨w.heap.size, 0, none⟩) (sLen + 16) C) (w.drew.alloc (.cells (olds ++ z16 ++ rest).toArray 5)) := by
  obtain ⟨i, hi, hz, hsize, hby⟩ := info_parts Try.info5
  have hn : ¬ (sLen + 16 ≤ sCap) := by omega
  have h63' : ¬ (9223372036854775807 < ((sLen : Int) + 16)) := by omega
  have hmx : ¬ (9223372036854775807 < (sLen : Int) + max 16 0) := by omega
  have hnc : Builtin.nextslicecap (sLen + 16) sCap ≤ 64 := by
    unfold Builtin.nextslicecap
    split
    · omega
    · rw [if_pos (by omega)]; omega
  have h48' : ¬ (281474976710656 < Builtin.nextslicecap (sLen + 16) sCap) := by omega
  have hw : IntKind.i64.wrap 16 = 16 := by decide
  have hzc : Builtin.zeroCells (Value.int IntKind.u8 0).cells 16 = z16.toArray := zeroCells_16
  refine ⟨grownCap w (sLen + 16) sCap 5, (Builtin.zeroCells (Value.int IntKind.u8 0).cells (grownCap w (sLen + 16) sCap 5 - (sLen + 16))).toList, grownCap_ge _ _ _ _, grownCap_le_maxLen _ _ _ _ (by unfold maxLen; omega), ?_⟩
  simp [Builtin.append_, run_underlying Try.underlying22, run_underlying Try.underlying3, sizeOf, typeInfo, zeroValue, hi, hz, hsize, hby, asInt, asIntOf, hw, hn, h63', hmx, h48', Question.forced, hold, newRow, grownCap, hzc]
  generalize Builtin.zeroCells (Value.int IntKind.u8 0).cells _ = X
  rw [show (olds.toArray ++ (z16.toArray ++ X)) = (olds ++ (z16 ++ X.toList)).toArray by generalize z16 = Z; apply Array.ext'; simp]

theorem has_z {w : World} {b : Nat} {olds rest : List Value} {us : List UInt8} {C L : Nat} {t : TypeId} (h : w.heap[b]? = some (.cells (olds ++ z16 ++ rest).toArray t (0, 0))) (ho : olds = us.map bv) (hL : L = us.length + 16) (hC : L ≤ C) (hm : C ≤ maxLen) : Has w (.slice (some ⟨b, 0, none⟩) L C) (us ++ zero16) := by
  have hl : (us ++ zero16).length = L := by rw [List.length_append, hL]; rfl
  refine Or.inr ⟨⟨b, 0, none⟩, C, by rw [hl], fun _ => rfl, by omega, hm, fun _ => lt_of_block h, fun j hj => ?_⟩
  rw [Nat.zero_add, cell_of_row w b j _ _ _ h]
  have e : olds ++ z16 ++ rest = (us ++ zero16).map bv ++ rest := by rw [ho, z16_bv, List.map_append]
  rw [e]
  simp only [List.getElem?_toArray]
  rw [List.getElem?_append_left (by rw [List.length_map]; exact hj), List.getElem?_map, List.getElem?_eq_getElem hj]
  rfl

/-- the row u of at most 16 bytes, with 16 zeros behind it -/
theorem zeros_any (w : World) (ty base : Nat) (v : Value) (q : Nat) (us : List UInt8) (hq : q ≤ 16) (own : w.ownsRow base 5 1 v q (us.map bv)) :
    ∃ a cap w', (Builtin.append_ #[22, 3] ty #[v, .int .i64 16]).run Try.prog w = .ok (.slice (some a) (q + 16) cap) w' ∧ Has w' (.slice (some a) (q + 16) cap) (us ++ zero16) ∧ Only (fun j => v.ownBlock = some j) w w' := by
  have hul : us.length = q := by have := own.1; simpa using this
  rcases own.2 with ⟨rfl, h0⟩ | ⟨g, cap, cur, rfl, hb, hg, hc, hm, hcs, ht⟩
  · obtain ⟨C, rest, h1, h2, hr⟩ := grow_z w ty none 0 0 [] (run_firstCells_none w.drew 1 0 0 0) (by decide) (by decide)
    subst h0
    refine ⟨_, C, _, hr, has_z (heap_alloc_new w.drew _) (by rw [List.eq_nil_of_length_eq_zero hul]; rfl) (by omega) h1 h2, ?_⟩
    exact ((Only.refl _ w).drew).alloc _
  · have hcur : cur.toList = us.map bv ++ cur.toList.drop q := by
      rw [← ht]
      simp
    by_cases hroom : q + 16 ≤ cap
    · have hcell : ∀ j, j < cur.size → (w.cell? ⟨g, j, none⟩).isSome = true ∧ w.frozen? ⟨g, j, none⟩ = false := fun j hj => by
        refine ⟨?_, ?_⟩
        · rw [cell_of_row w g j _ _ _ hg]
          simp [hj]
        · simp [World.frozen?, hg]
      have hr := room_z w ty g 0 q cap hroom (fun j hj => by rw [Nat.zero_add]; exact (hcell (q + j) (by omega)).1) (fun j hj => by rw [Nat.zero_add]; exact (hcell (q + j) (by omega)).2)
      rw [Nat.zero_add] at hr
      refine ⟨_, cap, _, hr, ?_, Only.setCells (S := fun j => Value.ownBlock (.slice (some ⟨g, 0, none⟩) q cap) = some j) (b := g) (fun _ => rfl) _ _ _ (Only.refl _ _)⟩
      have h1 := Ae.setCells_block z16 w q cur.toList (by simpa using hg)
      rw [setMany_eq _ _ _ (by simp [z16]; omega), hcur, List.take_left' (by simp [hul]), ← List.append_assoc] at h1
      exact has_z h1 rfl (by omega) hroom hm
    · obtain ⟨C, rest, h1, h2, hr⟩ := grow_z w ty (some ⟨g, 0, none⟩) q cap (us.map bv) (run_firstCells_some w.drew 1 q ⟨g, 0, none⟩ q cap (us.map bv) (by simp [hul]) (fun j u hu => by
        have hc := own.cells (g := g) rfl j u hu
        exact hc)) (by omega) hq
      exact ⟨_, C, _, hr, has_z (heap_alloc_new w.drew _) rfl (by omega) h1 h2, ((Only.refl _ w).drew).alloc _⟩

end Md
end Go.Proofs.Ytdmcnblnoiahcaa

namespace Go.Proofs.Ytdmcnblnoiahcaa
open Go.RowKit
set_option linter.unusedSimpArgs false
set_option linter.unusedVariables false
namespace Md
open Ae (zero16 Arr)

def keyS (k : List UInt8) (n : Int) : List UInt8 := k.take (16 + 8 * (n % 3)).toNat
def ivS (iv : List UInt8) : List UInt8 := (iv.take 16 ++ zero16).take 16
def tS (t : List UInt8) (long : Int) : List UInt8 := if long % 3 = 0 then rawBytes (long % 100).toNat long else t
theorem keyS_ok (k : List UInt8) (hk : k.length = 32) (n : Int) : keyB (keyS k n) := by
  have h0 := Int.emod_nonneg n (show (3 : Int) ≠ 0 by decide)
  have h3 := Int.emod_lt_of_pos n (show (0 : Int) < 3 by decide)
  unfold keyB keyS
  rw [List.length_take]
  omega
theorem ivS_length (iv : List UInt8) : (ivS iv).length = 16 := by
  unfold ivS
  rw [List.length_take, List.length_append, show (zero16 : List UInt8).length = 16 from rfl]
  omega
theorem tS_length (t : List UInt8) (long : Int) (h : t.length ≤ 140737488351232) : (tS t long).length ≤ 140737488351232 := by
  unfold tS
  split
  · rw [rawBytes_length]
    have h3 := Int.emod_lt_of_pos long (show (0 : Int) < 100 by decide)
    omega
  · exact h

theorem wpList_append_run2 {P : Program} {w : World} {ops : Array Oper} {rest : List Oper} {o : Oper} {a : Act} {Q : Exit → Act → World → Prop} (hgd : o.guard = none) (s x : Operand) (t t2 : TypeId)
    (ho : o.op = .call { callee := .builtin .append, args := #[s, x], argTypes := #[t, t2] }) (v xv v' : Value) (w' : World) (hs : a.eval s = v) (hxv : a.eval x = xv)
    (hr : (Builtin.append_ #[t, t2] o.type #[v, xv]).run P w = .ok v' w') (h : wpList P ops Q rest (a.put o.dst v') w') : wpList P ops Q (o :: rest) a w :=
  wpList_plain hgd fun _ hK => by
    unfold Oper.wp execOp
    simp only [ho, resolve, invoke, builtin, Sem.run_bind, Sem.run_pure, Result.andThen_ok, List.map_toArray, List.map_cons, List.map_nil, hs, hxv, hr]
    exact hK _ _ h

set_option maxRecDepth 100000 in
set_option maxHeartbeats 2000000 in
theorem some_any (k iv t : List UInt8) (hk : k.length = 32) (n long : Int) (vv tv : Value) (w : World) (hv : Has w vv iv) (ht : Has w tv t) (h1 : -9223372036854775808 ≤ long) (h2 : long ≤ 9223372036854775807) :
    Calls Try.prog 10 #[.agg (k.map bv).toArray, .int .i64 n, vv, tv, .int .i64 long] w fun e w' => ∃ a b c, e = .returned (.tuple #[a, b, c]) ∧ Has w' a (keyS k n) ∧ Has w' b (ivS iv) ∧ Has w' c (tS t long) ∧ Only (fun _ => False) w w' := by
  obtain ⟨i0, hi, hz0, hz1, hz2⟩ := info_parts Try.info5
  have h0 := Int.emod_nonneg n (show (3 : Int) ≠ 0 by decide)
  have h3 := Int.emod_lt_of_pos n (show (0 : Int) < 3 by decide)
  obtain ⟨L, hL⟩ : ∃ L : Nat, L = (16 + 8 * (n % 3)).toNat := ⟨_, rfl⟩
  have hKS : keyS k n = k.take L := by unfold keyS; rw [hL]
  have hL32' : L ≤ 32 := by omega
  have hL1 : 16 ≤ L := by omega
  obtain ⟨r, hr⟩ : ∃ r : Nat, n % 3 = (r : Int) := ⟨(n % 3).toNat, by omega⟩
  have hr2 : r ≤ 2 := by omega
  have hLr : 16 + 8 * (r : Int) = (L : Int) := by omega
  have HP := hide (fun W => pick_any n 3 W (by decide) (by decide))
  rw [hr] at HP
  have oA : Only (fun _ => False) w ((w.alloc (.cells (k.map bv).toArray 29)).alloc (.cells #[] 5)) := ((Only.refl _ w).alloc _).alloc _
  have hA := (Arr.new w 29 k _ rfl).alloc (.cells #[] 5)
  have hHas : Has ((w.alloc (.cells (k.map bv).toArray 29)).alloc (.cells #[] 5)) (.slice (some ⟨w.heap.size, 0, none⟩) L 32) (k.take L) := by
    refine Or.inr ⟨⟨w.heap.size, 0, none⟩, 32, by rw [List.length_take, Nat.min_eq_left (by omega)], fun _ => rfl, by rw [List.length_take]; omega, by unfold maxLen; omega, fun _ => hA.lt, fun j hj => ?_⟩
    have hj2 : j < k.length := by rw [List.length_take] at hj; omega
    rw [Nat.zero_add, hA.cell j k[j] (by simp [hj2])]
    simp [bv]
  have hown : ((w.alloc (.cells (k.map bv).toArray 29)).alloc (.cells #[] 5)).ownsRow (w.heap.size + 1) 5 1 (.slice (some ⟨w.heap.size + 1, 0, none⟩) 0 0) 0 [] := by
    have h := World.ownsRow_lit (w.alloc (.cells (k.map bv).toArray 29)) #[] 0 (base := w.heap.size + 1) (e := 5) (size := 1) (by simp) (Nat.zero_le _) rfl
    rw [World.size_alloc] at h
    exact h
  have HH := hide hHas
  have HO := hide hown
  have OA := hide oA
  have hlt : (k.take L).length = L := by rw [List.length_take]; omega
  have HLT := hide hlt
  have HKS := hide hKS
  have HV := hide hv
  have HTX := hide ht
  clear hA hHas hown hr h0 h3 hlt hL hKS hv ht oA
  go_enter Try.func10, Try.ntmps10
  go_wp2_with fail
  refine (unhide HP _).mono ?_
  rintro e w1 ⟨rfl, hw1⟩
  rw [hw1]
  clear hw1 w1
  have hL32 : (L : Int) ≤ 32 := by omega
  have hb1 : 0 + (k.take L).length ≤ 140737488355328 := by have := unhide HLT; omega
  have hb2 : w.heap.size + 1 ≤ ((w.alloc (.cells (k.map bv).toArray 29)).alloc (.cells #[] 5)).heap.size := by simp
  go_upto_region 2 with (at_builtin; refine wpList_append_has rfl (.tmp 13) (.tmp 18) 22 rfl (w.heap.size + 1) 5 i0 Try.underlying22 hi hz0 hz1 hz2 _ 0 [] rfl (unhide HO) _ (k.take L) rfl (unhide HH) hb1 hb2 ?_; intro ao2 cap2 w2 own2 gr2 at2)
  have hh2 : Has w2 (.slice ao2 (0 + (k.take L).length) cap2) (k.take L) := Has.ofOwns (by simpa using own2)
  have O2 : Hid (Only (fun _ => False) w w2) := (unhide OA).grown gr2 (fun j hj hlt => by have h2 : some (w.heap.size + 1) = some j := hj; simp at h2; omega)
  clear own2 gr2 at2 HH HO OA HP hb1 hb2 hL32
  rw [Nat.zero_add, unhide HLT] at hh2
  have HK2 := hide hh2
  have HFW : Hid (Calls Try.prog 28 #[vv, .int .i64 16] w2 fun e w' => ∃ u, e = .returned u ∧ Owns w2.heap.size w' u (iv.take 16) ∧ Only (fun _ => False) w2 w') := few_any vv iv 16 w2 ((unhide HV).only (unhide O2) (fun _ _ _ e => e)) (Or.inr (by omega))
  clear hh2
  go_wp2_with fail
  refine (unhide HFW).mono ?_
  rintro e w3 ⟨u, rfl, hu, o3⟩
  obtain ⟨a4, cap4, w4, hrun, hh4, oz⟩ := zeros_any w3 22 w2.heap.size u (iv.take 16).length (iv.take 16) (by rw [List.length_take]; omega) hu
  have O3 := hide ((unhide O2).trans o3 (fun _ _ e => e))
  have O34 : Hid (Only (fun _ => False) w2 w4) := o3.trans oz (fun j hj e => by have := (hu.lt j e).1; omega)
  have HI4 : Hid (Has w4 (.slice (some a4) 16 cap4) (ivS iv)) := by
    have hl : (iv.take 16 ++ zero16).length = (iv.take 16).length + 16 := by rw [List.length_append]; rfl
    rw [← hl] at hh4
    exact hh4.front (n := 16) (by rw [hl]; omega)
  have hcap4 : (16 : Int) ≤ (cap4 : Int) := by
    obtain ⟨_, _, e, h, _⟩ := hh4.shape
    simp only [Value.slice.injEq] at e
    have hl : (iv.take 16 ++ zero16).length = (iv.take 16).length + 16 := by rw [List.length_append]; rfl
    omega
  have O4 : Hid (Only (fun _ => False) w w4) := (unhide O2).trans (unhide O34) (fun _ _ e => e)
  have HRUN := hide hrun
  have HK4 := hide ((unhide HK2).only (unhide O34) (fun _ _ _ e => e))
  have HT4 := hide ((unhide HTX).only (unhide O4) (fun _ _ _ e => e))
  clear hrun hh4 oz hu o3 HFW HK2 O2 O3 O34 HTX HV
  generalize (iv.take 16).length = q at *
  go_upto_region 3 with (at_builtin; refine wpList_append_run2 rfl (.tmp 21) (.const (.int .i64 16)) 22 3 rfl _ _ _ _ rfl rfl (unhide HRUN) ?_)
  clear HRUN
  obtain ⟨d, hd⟩ : ∃ d, long.tmod 3 = d := ⟨_, rfl⟩
  have hdm : d = 0 ↔ long % 3 = 0 := by rw [← hd, Int.tmod_eq_emod]; split <;> omega
  have HTS : Hid (tS t long = if long % 3 = 0 then rawBytes (long % 100).toNat long else t) := rfl
  by_cases hd0 : d = 0
  · have hdb : (d == 0) = true := by simpa using hd0
    have HTS2 : Hid (tS t long = rawBytes (long % 100).toNat long) := by show _ = _; rw [unhide HTS, if_pos (hdm.1 hd0)]
    have HP2 := hide (pick_any long 100 w4 (by decide) (by decide))
    obtain ⟨p, hp⟩ : ∃ p : Nat, long % 100 = (p : Int) := ⟨(long % 100).toNat, by omega⟩
    rw [hp] at HP2 HTS2
    have hp100 : p < 100 := by omega
    have HB2 := hide (handBytes_any p long w4 (by omega) h1 h2)
    rw [show ((p : Int)).toNat = p from rfl] at HTS2
    clear hd0 hdm HTS hp
    go_wp2_with fail
    refine (unhide HP2).mono ?_
    rintro e w5 ⟨rfl, hw5⟩
    rw [hw5]
    clear hw5 w5
    go_wp2_with fail
    refine (unhide HB2).mono ?_
    rintro e w6 ⟨vb, rfl, hm6⟩
    have O6 := hide hm6.only
    have HH6 := hide (Has.ofOwns hm6.own)
    clear hm6
    go_wp2
    go_ret3
    refine ⟨_, _, _, rfl, ?_, (unhide HI4).only (unhide O6) (fun _ _ _ e => e), ?_, (unhide O4).trans (unhide O6) (fun _ _ e => e)⟩
    · rw [unhide HKS]; exact (unhide HK4).only (unhide O6) (fun _ _ _ e => e)
    · rw [unhide HTS2]; exact unhide HH6
  · have hdb : (d == 0) = false := by simpa using hd0
    have HTS2 : Hid (tS t long = t) := by show _ = _; rw [unhide HTS, if_neg (fun e => hd0 (hdm.2 e))]
    clear hd0 hdm HTS
    go_wp2
    go_ret3
    refine ⟨_, _, _, rfl, ?_, unhide HI4, ?_, unhide O4⟩
    · rw [unhide HKS]; exact unhide HK4
    · rw [unhide HTS2]; exact unhide HT4

theorem Has.mid {w : World} {b o l cap n : Nat} {bs : List UInt8} (h : Has w (.slice (some ⟨b, o, none⟩) l cap) bs) (i : Nat) (hi : i + n ≤ bs.length) (hn : 0 < n) : Has w (.slice (some ⟨b, o + i, none⟩) n (cap - i)) ((bs.drop i).take n) := by
  have h1 := h.back (n := i) (by omega)
  have h2 := h1.front (n := n) (by simp; omega)
  rw [show Option.map (fun x : Addr => x.add i) (some ⟨b, o, none⟩) = some ⟨b, o + i, none⟩ from by rw [Option.map_some, addr_add _ rfl]] at h2
  exact h2
theorem ivS_self (bs : List UInt8) (h : bs.length = 16) : ivS bs = bs := by
  have e : bs.take 16 = bs := List.take_of_length_le (by omega)
  unfold ivS
  rw [e, List.take_left' h]

end Md
end Go.Proofs.Ytdmcnblnoiahcaa
