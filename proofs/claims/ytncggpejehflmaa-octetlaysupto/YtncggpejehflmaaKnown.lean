/-
  known and OctetKnown.
-/
import Derived.Test.YtncggpejehflmaaCallsO
import Derived.Test.YtncggpejehflmaaRdCallsO
import Derived.Lib.SlBytesConst
namespace Go.Proofs.Ytncggpejehflmaa
open Go.RowKit
set_option linter.unusedSimpArgs false
set_option linter.unusedVariables false

theorem str_conv {w : World} {v : Value} {bs : List UInt8} (h : Has w v bs) : (convert 24 9 v).run Try.prog w = .ok (.string (str bs)) w :=
  run_convert_has 24 5 9 Try.underlying24 Try.underlying5 Try.underlying9 h

theorem has_lit {w : World} {g : Nat} {bs : List UInt8} {t : TypeId} {fr : Nat × Nat} (h : w.heap[g]? = some (.cells (bs.map bv).toArray t fr)) (hm : bs.length ≤ maxLen) : Has w (.slice (some ⟨g, 0, none⟩) bs.length bs.length) bs := by
  refine Or.inr ⟨⟨g, 0, none⟩, bs.length, rfl, fun _ => rfl, Nat.le_refl _, hm, fun _ => lt_of_block h, fun j hj => ?_⟩
  simp [World.cell?, h, hj]

set_option maxHeartbeats 400000 in
theorem known_any (w : World) : Calls Try.prog 9 #[] w fun e w' => e = .returned (.bool true) ∧ Only (fun _ => False) w w' := by
  have kc := fun (w : World) (C : Array Value) (n c : Nat) => Lib.run_convert_bytes_const (P := Try.prog) w 24 5 C n c Try.underlying24 Try.underlying5
  go_enter Try.func9, Try.ntmps9
  go_wp2_with fail
  refine (newWriter_any w).mono ?_
  rintro e w1 ⟨rfl, h1, o1⟩
  go_wp2_with fail
  refine (WO.u16_any _ _ [] 258 w1 h1 (by simp)).mono ?_
  rintro e w2 ⟨rfl, v2, h2⟩
  have o2 : Only (fun _ => False) w w2 := o1.trans h2.only (fun i hi e => by
    rcases e with e | e
    · omega
    · cases e)
  have hs1 := o1.size
  have HB2 := hide h2
  clear h2 h1 o1
  go_wp2_with fail
  refine (WO.short_yes w.heap.size v2 _ _ [97, 98] _ (has_lit (heap_alloc_new _ _) (by simp [maxLen])) ((unhide HB2).now.push rfl) (by simp [be_length]) (by decide) ?_).mono ?_
  · intro _ k hk
    have h2 := unhide HB2
    have hl := lt_of_block h2.now.blk
    simp only [blk, Option.map_some, Option.some.injEq] at hk
    refine ⟨by omega, fun e => ?_⟩
    have := (h2.now.own.lt _ e).2
    omega
  rintro e w3 ⟨rfl, v3, h3⟩
  have o3 : Only (fun _ => False) w w3 := (o2.alloc _).trans h3.only (fun i hi e => by
    rcases e with e | e
    · omega
    · rcases (unhide HB2).fresh i e with e | e
      · cases e
      · omega)
  have HB3 := hide h3.now
  clear h3 HB2 o2
  go_wp2_with fail
  refine (bytes_any _ _ _ _ (unhide HB3) (by simp [be_length, WO.short])).mono ?_
  rintro e w4 ⟨u, rfl, hu⟩
  have o4 : Only (fun _ => False) w w4 := o3.trans hu.only (fun _ _ e => e)
  have HB4 := hide ((unhide HB3).only hu.only (fun h => h) (fun _ _ h => h))
  have hcv := str_conv (Has.ofOwns hu.own)
  rw [show str (([] ++ be 2 (toU64 258)) ++ WO.short [97, 98]) = ⟨#[1, 2, 0, 2, 97, 98]⟩ from by decide +kernel] at hcv
  clear hu HB3 o3
  go_wp2_with fail
  refine (len_any _ _ _ _ (unhide HB4)).mono ?_
  rintro e w5 ⟨rfl, rfl⟩
  have e6 : (([] ++ be 2 (toU64 258)) ++ WO.short [97, 98] : List UInt8).length = 6 := by decide +kernel
  rw [e6]
  go_wp2
  go_ret
  exact ⟨rfl, o4⟩

/-- a new row of n zeros -/
theorem make_zeros (n : Nat) (hn : n ≤ 281474976710656) : ∃ Z : Array Value, (∀ w : World, (Instr.makeSlice 24 (.int .i64 n) (.int .i64 n)).run Try.prog w = .ok (.slice (some ⟨w.heap.size, 0, none⟩) n n) (w.alloc (.cells Z 5))) ∧ ∃ zs : List UInt8, zs.length = n ∧ Z = (zs.map bv).toArray := by
  obtain ⟨i0, hi, hz0, hz1, hz2⟩ := info_parts Try.info5
  refine ⟨madeCells #[.int .u8 0] n, fun w => ?_, List.replicate n 0, by simp, ?_⟩
  · have h := run_make (P := Try.prog) w 24 5 i0 (.int .u8 0) Try.underlying24 hi hz0 .i64 .i64 n n (by omega) (by omega) (by rw [hz2]; omega) (by omega)
    simp only [hz1, Nat.mul_one, Int.toNat_natCast] at h
    exact h
  · apply Array.ext'
    rw [toList_madeCells_one]
    simp [bv]

theorem has_row {w : World} {g n : Nat} {bs : List UInt8} {Z : Array Value} {t : TypeId} {fr : Nat × Nat} (h : w.heap[g]? = some (.cells Z t fr)) (hZ : Z = (bs.map bv).toArray) (hn : bs.length = n) (hm : n ≤ maxLen) : Has w (.slice (some ⟨g, 0, none⟩) n n) bs := by
  subst hZ; subst hn; exact has_lit h hm

set_option maxHeartbeats 1000000 in
theorem octetKnown_any (w : World) : Calls Try.prog 3 #[] w fun e w' => e = .returned (.bool true) ∧ Only (fun _ => False) w w' := by
  obtain ⟨Z, hmk, zs, hzl, hZ⟩ := make_zeros 65536 (by decide)
  have hmk' : ∀ w : World, (Instr.makeSlice 24 (.int .i64 65536) (.int .i64 65536)).run Try.prog w = .ok (.slice (some ⟨w.heap.size, 0, none⟩) 65536 65536) (w.alloc (.cells Z 5)) := hmk
  have HZ := hide (And.intro hzl hZ)
  clear hzl hZ hmk
  go_enter Try.func3, Try.ntmps3
  go_wp2_with fail
  refine (RO.newReader_any _ [1, 2, 3] _ (has_lit (heap_alloc_new _ _) (by simp [maxLen])) (by simp)).mono ?_
  rintro e w1 ⟨rb, rfl, rv, hr1, o1, hb1, hv1⟩
  have o1' : Only (fun _ => False) w w1 := ((Only.refl _ _).alloc _).trans o1 (fun _ _ e => e)
  have hlt := o1'.size
  have hrb : rb < w1.heap.size := lt_of_block hr1.blk
  have hb1' : w.heap.size ≤ rb := Nat.le_trans (by simp) hb1
  clear hb1
  have HR := hide hr1
  have HV := hide hv1
  clear hr1 hv1 o1
  go_wp2_with fail
  refine (newWriter_any w1).mono ?_
  rintro e w2 ⟨rfl, h2, o2⟩
  have o2' := o1'.trans o2 (fun _ _ e => e)
  have HR2 := hide ((unhide HR).only o2 (fun h => h) (fun _ _ h => h))
  have HW2 := hide h2
  clear h2 HR o1'
  go_wp2_with fail
  refine (known_any w2).mono ?_
  rintro e w3 ⟨rfl, o3⟩
  have o3' := o2'.trans o3 (fun _ _ e => e)
  have HR3 := hide ((unhide HR2).only o3 (fun h => h) (fun _ _ h => h))
  have HW3 := hide ((unhide HW2).only o3 (fun h => h) (fun _ _ h => h))
  clear HR2 HW2 o2' o2 o3
  go_wp2_with fail
  refine (RO.u16_any _ _ _ _ _ (unhide HR3) (by simp)).mono ?_
  rintro e w4 ⟨rfl, v4, h4⟩
  have x1 : de (rdBytes false [1, 2, 3] 2) = 258 := by decide +kernel
  have x2 : rdLack false [1, 2, 3] 2 = false := by decide +kernel
  have x3 : rdRest false [1, 2, 3] 2 = [3] := by decide +kernel
  rw [x1]
  rw [x2, x3] at h4
  clear x1 x2 x3
  have o4' : Only (fun _ => False) w w4 := o3'.trans h4.only (fun i hi e => by omega)
  have HW4 := hide ((unhide HW3).only h4.only (fun e => by omega) (fun k hk => by cases hk))
  have HR4 := hide h4.now
  clear h4 o3' HW3 HR3
  go_wp2_with fail
  refine (RO.u32_any _ _ _ _ _ (unhide HR4) (by simp)).mono ?_
  rintro e w5 ⟨rfl, v5, h5⟩
  have x1 : de (rdBytes false [3] 4) = 0 := by decide +kernel
  have x2 : rdLack false [3] 4 = true := by decide +kernel
  have x3 : rdRest false [3] 4 = [] := by decide +kernel
  rw [x1]
  rw [x2, x3] at h5
  clear x1 x2 x3
  have o5' : Only (fun _ => False) w w5 := o4'.trans h5.only (fun i hi e => by omega)
  have HW5 := hide ((unhide HW4).only h5.only (fun e => by omega) (fun k hk => by cases hk))
  have HR5 := hide h5.now
  clear h5 o4' HW4 HR4
  go_wp2_with fail
  refine (RO.lack_any _ _ _ _ _ (unhide HR5)).mono ?_
  rintro e w6 ⟨rfl, rfl⟩
  go_wp2_with fail
  refine (RO.left_any _ _ _ _ _ (unhide HR5)).mono ?_
  rintro e w7 ⟨rfl, rfl⟩
  go_wp2_with fail
  refine (RO.u8_any _ _ _ _ _ (unhide HR5) (by simp)).mono ?_
  rintro e w8 ⟨rfl, v8, h8⟩
  have x1 : de (rdBytes true [] 1) = 0 := by decide +kernel
  rw [x1]
  clear x1
  have o8' : Only (fun _ => False) w w8 := o5'.trans h8.only (fun i hi e => by omega)
  have HW8 := hide ((unhide HW5).only h8.only (fun e => by omega) (fun k hk => by cases hk))
  clear h8 o5' HW5 HR5
  go_wp2_with fail
  refine (WO.short_no _ _ zs _ (has_row (heap_alloc_new _ _) (unhide HZ).2 (unhide HZ).1 (by unfold maxLen; omega)) (by rw [(unhide HZ).1]; omega)).mono ?_
  rintro e w9 ⟨rfl, rfl⟩
  have HW9 := hide ((unhide HW8).push (w' := w8.alloc (.cells Z 5)) rfl)
  go_wp2_with fail
  refine (len_any _ _ _ _ (unhide HW9)).mono ?_
  rintro e w10 ⟨rfl, rfl⟩
  go_wp2_with fail
  refine (RO.newReader_any _ [] _ (Or.inl ⟨rfl, rfl⟩) (by simp)).mono ?_
  rintro e w11 ⟨b11, rfl, v11, h11, o11, hb11, _⟩
  have hb11' : w.heap.size ≤ b11 := Nat.le_trans (Nat.le_trans o8'.size (by simp)) hb11
  clear hb11
  have HR11 := hide h11
  have o11' : Only (fun _ => False) w w11 := (o8'.alloc _).trans o11 (fun _ _ e => e)
  clear h11 o11 o8'
  go_wp2_with fail
  refine (RO.raw_any _ _ _ _ 0 _ (unhide HR11) (by simp)).mono ?_
  rintro e w12 ⟨u12, rfl, own12, v12, h12⟩
  have o12' : Only (fun _ => False) w w12 := o11'.trans h12.only (fun i hi e => by omega)
  obtain ⟨ao, cap, rfl⟩ := ownsRow_shape own12.out
  clear own12 h12
  rw [show (rdBytes false [] 0).length = 0 from by decide +kernel]
  go_wp2
  go_ret
  exact ⟨rfl, o12'⟩

end Go.Proofs.Ytncggpejehflmaa
