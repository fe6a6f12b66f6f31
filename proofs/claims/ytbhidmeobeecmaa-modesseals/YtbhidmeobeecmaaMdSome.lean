/-
  locksmithlaw9.some.
-/
import Derived.Test.YtbhidmeobeecmaaMdZeros
import Derived.Test.YtbhidmeobeecmaaMdFine
import Derived.Test.YtbhidmeobeecmaaAeLaw
import Derived.Test.YtbhidmeobeecmaaHand
import Derived.Test.YtbhidmeobeecmaaHandBytes
namespace Go.Proofs.Ytbhidmeobeecmaa
open Go.RowKit
set_option linter.unusedSimpArgs false
set_option linter.unusedVariables false
namespace Md
open Ae (zero16 Arr)

def keyS (k : List UInt8) (n : Int) : List UInt8 := k.take (16 + 8 * (n % 3)).toNat
def ivS (iv : List UInt8) : List UInt8 := (iv.take 16 ++ zero16).take 16
def tS (t : List UInt8) (long : Int) : List UInt8 := if long % 3 = 0 then rawBytes (long % 100).toNat long else t
theorem keyS_ok (k : List UInt8) (hk : k.length = 32) (n : Int) : keyB (keyS k n) := by
  have h0 := Int.emod_nonneg n (show (3 : Int) ≠ 0 by decide)
  have h3 := Int.emod_lt_of_pos n (show (0 : Int) < 3 by decide)
  unfold keyB keyS
  rw [List.length_take]
  omega
theorem ivS_length (iv : List UInt8) : (ivS iv).length = 16 := by
  unfold ivS
  rw [List.length_take, List.length_append, show (zero16 : List UInt8).length = 16 from rfl]
  omega
theorem tS_length (t : List UInt8) (long : Int) (h : t.length ≤ 140737488351232) : (tS t long).length ≤ 140737488351232 := by
  unfold tS
  split
  · rw [rawBytes_length]
    have h3 := Int.emod_lt_of_pos long (show (0 : Int) < 100 by decide)
    omega
  · exact h

theorem wpList_append_run2 {P : Program} {w : World} {ops : Array Oper} {rest : List Oper} {o : Oper} {a : Act} {Q : Exit → Act → World → Prop} (hgd : o.guard = none) (s x : Operand) (t t2 : TypeId)
    (ho : o.op = .call { callee := .builtin .append, args := #[s, x], argTypes := #[t, t2] }) (v xv v' : Value) (w' : World) (hs : a.eval s = v) (hxv : a.eval x = xv)
    (hr : (Builtin.append_ #[t, t2] o.type #[v, xv]).run P w = .ok v' w') (h : wpList P ops Q rest (a.put o.dst v') w') : wpList P ops Q (o :: rest) a w :=
  wpList_plain hgd fun _ hK => by
    unfold Oper.wp execOp
    simp only [ho, resolve, invoke, builtin, Sem.run_bind, Sem.run_pure, Result.andThen_ok, List.map_toArray, List.map_cons, List.map_nil, hs, hxv, hr]
    exact hK _ _ h

set_option maxRecDepth 100000 in
set_option maxHeartbeats 2000000 in
theorem some_any (k iv t : List UInt8) (hk : k.length = 32) (n long : Int) (vv tv : Value) (w : World) (hv : Has w vv iv) (ht : Has w tv t) (h1 : -9223372036854775808 ≤ long) (h2 : long ≤ 9223372036854775807) :
    Calls Try.prog 18 #[.agg (k.map bv).toArray, .int .i64 n, vv, tv, .int .i64 long] w fun e w' => ∃ a b c, e = .returned (.tuple #[a, b, c]) ∧ Has w' a (keyS k n) ∧ Has w' b (ivS iv) ∧ Has w' c (tS t long) ∧ Only (fun _ => False) w w' := by
  obtain ⟨i0, hi, hz0, hz1, hz2⟩ := info_parts Try.info5
  have h0 := Int.emod_nonneg n (show (3 : Int) ≠ 0 by decide)
  have h3 := Int.emod_lt_of_pos n (show (0 : Int) < 3 by decide)
  obtain ⟨L, hL⟩ : ∃ L : Nat, L = (16 + 8 * (n % 3)).toNat := ⟨_, rfl⟩
  have hKS : keyS k n = k.take L := by unfold keyS; rw [hL]
  have hL32' : L ≤ 32 := by omega
  have hL1 : 16 ≤ L := by omega
  obtain ⟨r, hr⟩ : ∃ r : Nat, n % 3 = (r : Int) := ⟨(n % 3).toNat, by omega⟩
  have hr2 : r ≤ 2 := by omega
  have hLr : 16 + 8 * (r : Int) = (L : Int) := by omega
  have HP := hide (fun W => pick_any n 3 W (by decide) (by decide))
  rw [hr] at HP
  have oA : Only (fun _ => False) w ((w.alloc (.cells (k.map bv).toArray 32)).alloc (.cells #[] 5)) := ((Only.refl _ w).alloc _).alloc _
  have hA := (Arr.new w 32 k _ rfl).alloc (.cells #[] 5)
  have hHas : Has ((w.alloc (.cells (k.map bv).toArray 32)).alloc (.cells #[] 5)) (.slice (some ⟨w.heap.size, 0, none⟩) L 32) (k.take L) := by
    refine Or.inr ⟨⟨w.heap.size, 0, none⟩, 32, by rw [List.length_take, Nat.min_eq_left (by omega)], fun _ => rfl, by rw [List.length_take]; omega, by unfold maxLen; omega, fun _ => hA.lt, fun j hj => ?_⟩
    have hj2 : j < k.length := by rw [List.length_take] at hj; omega
    rw [Nat.zero_add, hA.cell j k[j] (by simp [hj2])]
    simp [bv]
  have hown : ((w.alloc (.cells (k.map bv).toArray 32)).alloc (.cells #[] 5)).ownsRow (w.heap.size + 1) 5 1 (.slice (some ⟨w.heap.size + 1, 0, none⟩) 0 0) 0 [] := by
    have h := World.ownsRow_lit (w.alloc (.cells (k.map bv).toArray 32)) #[] 0 (base := w.heap.size + 1) (e := 5) (size := 1) (by simp) (Nat.zero_le _) rfl
    rw [World.size_alloc] at h
    exact h
  have HH := hide hHas
  have HO := hide hown
  have OA := hide oA
  have hlt : (k.take L).length = L := by rw [List.length_take]; omega
  have HLT := hide hlt
  have HKS := hide hKS
  have HV := hide hv
  have HTX := hide ht
  clear hA hHas hown hr h0 h3 hlt hL hKS hv ht oA
  go_enter Try.func18, Try.ntmps18
  go_wp2_with fail
  refine (unhide HP _).mono ?_
  rintro e w1 ⟨rfl, hw1⟩
  rw [hw1]
  clear hw1 w1
  have hL32 : (L : Int) ≤ 32 := by omega
  have hb1 : 0 + (k.take L).length ≤ 140737488355328 := by have := unhide HLT; omega
  have hb2 : w.heap.size + 1 ≤ ((w.alloc (.cells (k.map bv).toArray 32)).alloc (.cells #[] 5)).heap.size := by simp
  go_upto_region 2 with (at_builtin; refine wpList_append_has rfl (.tmp 13) (.tmp 18) 22 rfl (w.heap.size + 1) 5 i0 Try.underlying22 hi hz0 hz1 hz2 _ 0 [] rfl (unhide HO) _ (k.take L) rfl (unhide HH) hb1 hb2 ?_; intro ao2 cap2 w2 own2 gr2 at2)
  have hh2 : Has w2 (.slice ao2 (0 + (k.take L).length) cap2) (k.take L) := Has.ofOwns (by simpa using own2)
  have O2 : Hid (Only (fun _ => False) w w2) := (unhide OA).grown gr2 (fun j hj hlt => by have h2 : some (w.heap.size + 1) = some j := hj; simp at h2; omega)
  clear own2 gr2 at2 HH HO OA HP hb1 hb2 hL32
  rw [Nat.zero_add, unhide HLT] at hh2
  have HK2 := hide hh2
  have HFW : Hid (Calls Try.prog 19 #[vv, .int .i64 16] w2 fun e w' => ∃ u, e = .returned u ∧ Owns w2.heap.size w' u (iv.take 16) ∧ Only (fun _ => False) w2 w') := few_any vv iv 16 w2 ((unhide HV).only (unhide O2) (fun _ _ _ e => e)) (Or.inr (by omega))
  clear hh2
  go_wp2_with fail
  refine (unhide HFW).mono ?_
  rintro e w3 ⟨u, rfl, hu, o3⟩
  obtain ⟨a4, cap4, w4, hrun, hh4, oz⟩ := zeros_any w3 22 w2.heap.size u (iv.take 16).length (iv.take 16) (by rw [List.length_take]; omega) hu
  have O3 := hide ((unhide O2).trans o3 (fun _ _ e => e))
  have O34 : Hid (Only (fun _ => False) w2 w4) := o3.trans oz (fun j hj e => by have := (hu.lt j e).1; omega)
  have HI4 : Hid (Has w4 (.slice (some a4) 16 cap4) (ivS iv)) := by
    have hl : (iv.take 16 ++ zero16).length = (iv.take 16).length + 16 := by rw [List.length_append]; rfl
    rw [← hl] at hh4
    exact hh4.front (n := 16) (by rw [hl]; omega)
  have hcap4 : (16 : Int) ≤ (cap4 : Int) := by
    obtain ⟨_, _, e, h, _⟩ := hh4.shape
    simp only [Value.slice.injEq] at e
    have hl : (iv.take 16 ++ zero16).length = (iv.take 16).length + 16 := by rw [List.length_append]; rfl
    omega
  have O4 : Hid (Only (fun _ => False) w w4) := (unhide O2).trans (unhide O34) (fun _ _ e => e)
  have HRUN := hide hrun
  have HK4 := hide ((unhide HK2).only (unhide O34) (fun _ _ _ e => e))
  have HT4 := hide ((unhide HTX).only (unhide O4) (fun _ _ _ e => e))
  clear hrun hh4 oz hu o3 HFW HK2 O2 O3 O34 HTX HV
  generalize (iv.take 16).length = q at *
  go_upto_region 3 with (at_builtin; refine wpList_append_run2 rfl (.tmp 21) (.const (.int .i64 16)) 22 3 rfl _ _ _ _ rfl rfl (unhide HRUN) ?_)
  clear HRUN
  obtain ⟨d, hd⟩ : ∃ d, long.tmod 3 = d := ⟨_, rfl⟩
  have hdm : d = 0 ↔ long % 3 = 0 := by rw [← hd, Int.tmod_eq_emod]; split <;> omega
  have HTS : Hid (tS t long = if long % 3 = 0 then rawBytes (long % 100).toNat long else t) := rfl
  by_cases hd0 : d = 0
  · have hdb : (d == 0) = true := by simpa using hd0
    have HTS2 : Hid (tS t long = rawBytes (long % 100).toNat long) := by show _ = _; rw [unhide HTS, if_pos (hdm.1 hd0)]
    have HP2 := hide (pick_any long 100 w4 (by decide) (by decide))
    obtain ⟨p, hp⟩ : ∃ p : Nat, long % 100 = (p : Int) := ⟨(long % 100).toNat, by omega⟩
    rw [hp] at HP2 HTS2
    have hp100 : p < 100 := by omega
    have HB2 := hide (handBytes_any p long w4 (by omega) h1 h2)
    rw [show ((p : Int)).toNat = p from rfl] at HTS2
    clear hd0 hdm HTS hp
    go_wp2_with fail
    refine (unhide HP2).mono ?_
    rintro e w5 ⟨rfl, hw5⟩
    rw [hw5]
    clear hw5 w5
    go_wp2_with fail
    refine (unhide HB2).mono ?_
    rintro e w6 ⟨vb, rfl, hm6⟩
    have O6 := hide hm6.only
    have HH6 := hide (Has.ofOwns hm6.own)
    clear hm6
    go_wp2
    go_ret3
    refine ⟨_, _, _, rfl, ?_, (unhide HI4).only (unhide O6) (fun _ _ _ e => e), ?_, (unhide O4).trans (unhide O6) (fun _ _ e => e)⟩
    · rw [unhide HKS]; exact (unhide HK4).only (unhide O6) (fun _ _ _ e => e)
    · rw [unhide HTS2]; exact unhide HH6
  · have hdb : (d == 0) = false := by simpa using hd0
    have HTS2 : Hid (tS t long = t) := by show _ = _; rw [unhide HTS, if_neg (fun e => hd0 (hdm.2 e))]
    clear hd0 hdm HTS
    go_wp2
    go_ret3
    refine ⟨_, _, _, rfl, ?_, unhide HI4, ?_, unhide O4⟩
    · rw [unhide HKS]; exact unhide HK4
    · rw [unhide HTS2]; exact unhide HT4
end Md
end Go.Proofs.Ytbhidmeobeecmaa
