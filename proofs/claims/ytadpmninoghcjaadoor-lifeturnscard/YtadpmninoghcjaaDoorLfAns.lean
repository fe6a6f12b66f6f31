/-
  life's plea: answered.
-/
import Derived.Test.YtadpmninoghcjaaDoorLfCalls
namespace Go.Proofs.YtadpmninoghcjaaDoor
open Go.RowKit
set_option linter.unusedSimpArgs false
set_option linter.unusedVariables false
namespace Ob
theorem Tryd.sizeCall2 : (Tryd.prog.info? 78).map (·.size) = some 2 := by kernel_rfl
/-- an object and a reason are answered -/
def Ans (w w' : World) (e : Ending) (o : Ob) (r : Int) : Prop := ∃ mv nv lv cv, e = .returned (.tuple #[val o mv nv lv cv, .int .i64 r]) ∧ In w' o mv nv lv cv ∧ Fresh4 w.heap.size mv nv lv cv ∧ Only (fun _ => False) w w'
theorem step_store_midA {P : Program} {ops : Array Oper} {o : Oper} {a : Act} {w : World} {K : Act → World → Prop} {Q : Exit → Act → World → Prop} {E : Prop} (hgd : o.guard = none) (ty : TypeId) (x y : Operand) (ho : o.op = .store ty x y)
    (b o' : Nat) (cells : Array Value) (hx : a.eval x = .pointer (some ⟨b, o', none⟩)) (hy : a.eval y = .agg cells)
    (ht : w.there b o' cells.size) (hi : (P.info? ty).map (·.size) = some cells.size) (h1 : cells.all (·.oneCell') = true)
    (h : K (a.put o.dst undef) (w.setCells b o' cells.toList)) : if Region.wanted o (yielded ops a.tmps) = true then Oper.wp P o a w K Q else E := by
  have hw : Region.wanted o (yielded ops a.tmps) = true := by simp [Region.wanted, hgd]
  rw [if_pos hw]
  exact wp_store_mid ty x y ho b o' cells hx hy ht hi h1 h
theorem zero_val : val zero (.slice none 0 0) (.slice none 0 0) (.slice none 0 0) (.slice none 0 0) = .agg Zo.toArray := rfl
set_option maxRecDepth 100000 in
set_option maxHeartbeats 8000000 in
theorem answer0_any (o : Ob) (mv nv lv cv : Value) (r : Int) (msg : List UInt8) (oc : Bool × Int) (now : Int) (w : World) (I : In w o mv nv lv cv) (S : Small o) (hn : W64 now) :
    Calls Tryd.prog 26 #[.agg (pcells o mv nv lv cv r msg oc now).toArray, .int .i64 0] w fun e w' => Ans w w' e (told (actE o) (actU o now)) (actE o) := by
  have hd := I.ten
  obtain ⟨w1, k1, e1, ek1, hb1, o1, hs1⟩ := boxed w (pcells o mv nv lv cv r msg oc now).toArray 56
  obtain ⟨w2, k2, e2, ek2, hb2, o2, hs2⟩ := boxed w1 Zo.toArray 32
  rw [List.toList_toArray] at hb1
  have OW := hide (o1.trans o2 (fun _ _ e => e))
  have HB := hide (hb1.same o2)
  have HZ : Hid (Bx w2 k2 32 Zo) := hb2
  have hk1 : w.heap.size ≤ k1 := by omega
  have hk2 : k1 < k2 := by omega
  have hk2s : k2 < w2.heap.size := by omega
  have HI := hide I
  have HSM := hide S
  have HNW := hide hn
  have HD := hide hd
  have HE1 := hide e1
  have HEK1 := hide ek1
  have HE2 := hide e2
  have HK12 : Hid (k1 + 1 = k2) := by show _ = _; omega
  have HCL := hide (calls_any w2)
  obtain ⟨dsc, hdu, hdr⟩ := row_desc Tryd.rowObj
  obtain ⟨dsp, hpu, hpr⟩ := row_desc Tryd.rowPlea
  obtain ⟨A, hA⟩ : ∃ A, A = pcells o mv nv lv cv r msg oc now := ⟨_, rfl⟩
  have HA := hide hA
  rw [← hA] at HE1 ⊢
  clear hA hb1 hb2 o1 o2 hs1 hs2 e1 ek1 e2 ek2 hd I S hn
  go_enter Tryd.func26, Tryd.ntmps26
  go_upto_region 1 with fail
  rw [zo_eq, ← unhide HE1, ← unhide HEK1, ← unhide HE2, unhide HK12]
  clear HE1 HEK1 HE2
  go_wp2_with fail
  refine (unhide HCL).mono ?_
  rintro e w3 ⟨b0, b1, b2, b3, b4, rfl, d0, d1, d2, d3, d4, o3⟩
  have hix : ∀ W, (Instr.index 79 (.agg (callsV b0 b1 b2 b3 b4).toArray) (.int .i64 0)).run Tryd.prog W = .ok (.agg #[.slice (some ⟨b0, 0, none⟩) 2 2, .func (.func 44) #[] #[]]) W := fun W => by kernel_rfl
  have HDQ : Hid (Bx w3 b0 83 cond0) := d0
  have HB3 := hide ((unhide HB).same o3)
  have HZ3 := hide ((unhide HZ).same o3)
  have O3 := hide ((unhide OW).trans o3 (fun _ _ e => e))
  have hk23 : k2 < w3.heap.size := by have := o3.size; omega
  clear d0 d1 d2 d3 d4 o3 HB HZ OW HCL
  obtain ⟨w4, k3, e4, ek3, hb4, o4, hs4⟩ := boxed w3 #[.slice none 0 0, .nilFunc] 78
  have hone4 : (#[Value.slice (some ⟨b0, 0, none⟩) 2 2, .func (.func 44) #[] #[]] : Array Value).all (·.oneCell') = true := all_oneCell_toArray (cs := [Value.slice (some ⟨b0, 0, none⟩) 2 2, .func (.func 44) #[] #[]]) (by intro u hu; simp only [List.mem_cons, List.not_mem_nil, or_false] at hu; rcases hu with rfl | rfl <;> rfl)
  have HTH4 : Hid (w4.there k3 0 (#[Value.slice (some ⟨b0, 0, none⟩) 2 2, .func (.func 44) #[] #[]] : Array Value).size) := bx_there hb4 _ rfl
  have HONE4 := hide hone4
  have HE4 := hide e4
  have HEK3 := hide ek3
  have hk3 : w3.heap.size ≤ k3 := by omega
  have hbq : b0 < w3.heap.size := (unhide HDQ).lt
  have q5 : Only (fun j => j = k3) w3 (w4.setCells k3 0 [Value.slice (some ⟨b0, 0, none⟩) 2 2, .func (.func 44) #[] #[]]) := (o4.mono (T := fun j => j = k3) (fun _ _ e => e.elim)).trans (Only.setCells (S := fun j => j = k3) (fun _ => rfl) _ _ _ (Only.refl _ _)) (fun _ _ e => e)
  have hb5 := setCells_bx hb4 [Value.slice (some ⟨b0, 0, none⟩) 2 2, .func (.func 44) #[] #[]] rfl
  go_upto_region 2 with (first
    | (rw [← unhide HE4, ← unhide HEK3]; refine wpList_store_mid rfl 78 (.tmp 6) (.tmp 12) rfl k3 0 #[.slice (some ⟨b0, 0, none⟩) 2 2, .func (.func 44) #[] #[]] rfl rfl (unhide HTH4) Tryd.sizeCall2 (unhide HONE4) ?_))
  try simp only [List.toList_toArray]
  generalize (w4.setCells k3 0 [Value.slice (some ⟨b0, 0, none⟩) 2 2, .func (.func 44) #[] #[]]) = w5 at *
  have HBC := hide hb5
  have HDQ5 := hide ((unhide HDQ).only q5 (by show ¬ b0 = k3; omega))
  have HB5 := hide ((unhide HB3).only q5 (by show ¬ k1 = k3; omega))
  have HZ5 := hide ((unhide HZ3).only q5 (by show ¬ k2 = k3; omega))
  have O5 : Hid (Only (fun _ => False) w w5) := (unhide O3).trans q5 (fun j hj e => by omega)
  have hk35 : k3 < w5.heap.size := hb5.lt
  clear hb4 o4 hs4 hone4 HTH4 HONE4 HE4 HEK3 e4 ek3 q5 hb5 HDQ HB3 HZ3 O3 hix
  have c30 := (unhide HBC).cell 0 _ rfl
  go_wp2
  go_loopw [16] (fun i wr => ∃ k : Nat, k ≤ 2 ∧ i = .int .i64 k ∧ Hid (Only (fun _ => False) w5 wr) ∧ Hid (0 < k → (o.arch) = false) ∧ Hid (1 < k → (!edgeB o.state 2) = false)) (fun i _ => 2 - (intOf i).toNat)
  case atStart => exact ⟨0, Nat.zero_le _, rfl, Only.refl _ _, fun h => absurd h (by omega), fun h => absurd h (by omega)⟩
  case round =>
    rename World => wr
    obtain ⟨k, hk, rfl, OR, G0, G1⟩ := hrel
    have hkc : k = 0 ∨ k = 1 ∨ k = 2 := by omega
    have HCR := hide ((unhide HDQ5).same (unhide OR))
    have HBR := hide ((unhide HB5).same (unhide OR))
    have HZR := hide ((unhide HZ5).same (unhide OR))
    have OWR := hide ((unhide O5).trans (unhide OR) (fun _ _ e => e))
    clear c30
    rcases hkc with rfl | rfl | rfl
    · as_aux_lemma =>
        obtain ⟨x1, kc, f1, g1, dc, qc, sc⟩ := boxed wr #[.int .i64 0, .nilFunc] 83
        have honec : (#[Value.int .i64 13, .func (.func 42) #[] #[]] : Array Value).all (·.oneCell') = true := all_oneCell_toArray (cs := [Value.int .i64 13, .func (.func 42) #[] #[]]) (by intro u hu; simp only [List.mem_cons, List.not_mem_nil, or_false] at hu; rcases hu with rfl | rfl <;> rfl)
        have HTC : Hid (x1.there kc 0 (#[Value.int .i64 13, .func (.func 42) #[] #[]] : Array Value).size) := bx_there dc _ rfl
        have HOC := hide honec
        have HF1 := hide f1
        have HG1 := hide g1
        have hdc := setCells_bx dc [Value.int .i64 13, .func (.func 42) #[] #[]] rfl
        have qx : Only (fun j => j = kc) wr (x1.setCells kc 0 [Value.int .i64 13, .func (.func 42) #[] #[]]) := (qc.mono (T := fun j => j = kc) (fun _ _ e => e.elim)).trans (Only.setCells (S := fun j => j = kc) (fun _ => rfl) _ _ _ (Only.refl _ _)) (fun _ _ e => e)
        have hkc : wr.heap.size ≤ kc := by omega
        have qxf := qx.mono (T := fun _ => False) (fun j hj e => by omega)
        have rc := (unhide HCR).range 0 2
        obtain ⟨dsk, hku, hkr⟩ := row_desc Tryd.rowCond
        clear dc qc sc honec f1 g1 qx
        go_upto_region 5 with (first
          | (refine wpList_load_mid rfl 83 (.tmp 18) rfl b0 0 rfl [Value.int .i64 13, .func (.func 42) #[] #[]] dsk rc hku hkr Tryd.sizeCond ?_)
          | (rw [← unhide HF1, ← unhide HG1]; refine wpList_store_mid rfl 83 (.tmp 8) (.tmp 19) rfl kc 0 #[.int .i64 13, .func (.func 42) #[] #[]] rfl rfl (unhide HTC) Tryd.sizeCond (unhide HOC) ?_))
        try simp only [List.toList_toArray]
        generalize (x1.setCells kc 0 [Value.int .i64 13, .func (.func 42) #[] #[]]) = x2 at *
        clear HF1 HG1 HTC HOC rc
        have HKC := hide hdc
        have HBX := hide ((unhide HBR).same qxf)
        have HZX := hide ((unhide HZR).same qxf)
        have OX := hide ((unhide OWR).trans qxf (fun _ _ e => e))
        have ORX := hide ((unhide OR).trans qxf (fun _ _ e => e))
        have cf := (unhide HKC).cell 1 _ rfl
        have rp := prange42 o mv nv lv cv r msg oc now (unhide HD) (unhide HBX)
        have HS42 := hide (size42 o mv nv lv cv r msg oc now (unhide HD))
        have HCD := hide (isArchived_any o mv nv lv cv r msg oc now x2 (unhide HD))
        rw [← unhide HA] at rp HS42 HCD
        clear hdc qxf
        go_wp2_with (refine wpList_load_mid rfl 56 (.tmp 2) rfl k1 0 rfl A dsp rp hpu hpr (unhide HS42) ?_)
        refine (unhide HCD).mono ?_
        rintro e x3 ⟨rfl, o3⟩
        have HK3 := hide ((unhide HKC).same o3)
        have HZ3 := hide ((unhide HZX).same o3)
        have O3 := hide ((unhide OX).trans o3 (fun _ _ e => e))
        have OR3 := hide ((unhide ORX).trans o3 (fun _ _ e => e))
        clear o3 cf rp HKC HZX OX ORX HBX HCD HS42
        cases hc : (o.arch) with
        | false =>
          have HCF : Hid ((o.arch) = false) := hc
          clear hc
          go_wp2
          go_roundw
          case rel => exact ⟨1, by omega, by go_num, unhide OR3, fun _ => unhide HCF, fun h => absurd h (by omega)⟩
          case measure => simp [intOf]
        | true =>
          have HCT : Hid ((o.arch) = true) := hc
          clear hc
          have HRE : Hid ((actE o) = 13) := by show _ = _; unfold actE; rw [unhide HCT]; rfl
          have cr := (unhide HK3).cell 0 _ rfl
          have hthz : x3.there k2 0 Zo.toArray.size := bx_there (unhide HZ3) _ (by rw [List.size_toArray])
          have HFBZ : Hid (Bx (x3.setCells k2 0 Zo) k2 32 Zo) := setCells_bx (unhide HZ3) Zo rfl
          have OFZ : Hid (Only (fun _ => False) w (x3.setCells k2 0 Zo)) := Only.setCells (fun h => absurd h (by omega)) _ _ _ (unhide O3)
          go_upto_region 6 with fail
          have HTHD : Hid (x3.drew.there k2 0 Zo.toArray.size) := bx_there (b := k2) (t := 32) (cs := Zo) ((unhide HZ3).same ((Only.refl _ _).drew)) _ (by rw [List.size_toArray])
          have CR := hide cr
          have Q := hide ((Only.refl (fun j => j = k2) x3).drew)
          have hkck : ¬ kc = k2 := by have := (unhide HZR).lt; omega
          refine wp_region_held_drew (S := (fun w' => Only (fun j => j = k2) x3 w')) (by kernel_rfl) ((Only.refl _ _).drew) (fun hHeld => ?_)
          refine wpAnyH_take (i := 0) (v := ?v1) rfl (by kernel_rfl) (by kernel_rfl) (by kernel_rfl) (fun _ _ _ h => h) (Or.inl ⟨by rfl, ?hy1⟩) (by assumption) ?rest1
          case hy1 =>
            intro w hSw
            go_simp
            try with_reducible rfl
          try simp only [Act.put, List.setIfInBounds_toArray, List.set_cons_zero, List.set_cons_succ, List.getElem_toArray, List.getElem_cons_succ, List.getElem_cons_zero]
          rw [zo_eq]
          refine wpAnyH_take (i := 1) (v := ?v2) rfl (by kernel_rfl) (by kernel_rfl) (by kernel_rfl) (fun _ _ _ h => h) (Or.inl ⟨by rfl, ?hy2⟩) (by assumption) ?rest2
          case hy2 =>
            intro w hSw
            go_simp
            try with_reducible rfl
          try simp only [Act.put, List.setIfInBounds_toArray, List.set_cons_zero, List.set_cons_succ, List.getElem_toArray, List.getElem_cons_succ, List.getElem_cons_zero]
          refine wpAnyH_take (i := 2) (v := ?v3) rfl (by kernel_rfl) (by kernel_rfl) (by kernel_rfl) (fun _ _ _ h => h) (Or.inl ⟨by rfl, ?hy3⟩) (by assumption) ?rest3
          case hy3 =>
            intro w hSw
            (have q := hSw.cell (unhide CR) hkck; go_simp; try with_reducible rfl)
          try simp only [Act.put, List.setIfInBounds_toArray, List.set_cons_zero, List.set_cons_succ, List.getElem_toArray, List.getElem_cons_succ, List.getElem_cons_zero]
          refine wpAnyH_ready (rs := [3]) (by kernel_rfl) (by simp) ?_
          refine AllReadyH.cons rfl (fun K hK => ?_) AllReadyH.nil
          refine step_store_midA rfl 32 (.tmp 4) (.tmp 24) rfl k2 0 Zo.toArray rfl rfl (unhide HTHD) Tryd.sizeObj zo_one ?_
          refine hK.out _ _ ((Only.setCells (S := fun j => j = k2) (fun _ => rfl) _ _ _ (unhide Q))) (fun hHeld => ?_)
          clear hK K
          try simp only [Act.put, List.setIfInBounds_toArray, List.set_cons_zero, List.set_cons_succ, List.getElem_toArray, List.getElem_cons_succ, List.getElem_cons_zero]
          refine wpAnyH_take (i := 4) (v := ?v4) rfl (by kernel_rfl) (by kernel_rfl) (by kernel_rfl) (fun _ _ _ h => h) (Or.inl ⟨by rfl, ?hy4⟩) (by assumption) ?rest4
          case hy4 =>
            intro w hSw
            go_simp
            try with_reducible rfl
          try simp only [Act.put, List.setIfInBounds_toArray, List.set_cons_zero, List.set_cons_succ, List.getElem_toArray, List.getElem_cons_succ, List.getElem_cons_zero]
          refine wpAnyH_done (by kernel_rfl) ?_ _
          go_wp2
          have HFBD : Hid (Bx (x3.drew.setCells k2 0 Zo) k2 32 Zo) := setCells_bx ((unhide HZ3).same ((Only.refl _ _).drew)) Zo rfl
          have OFD : Hid (Only (fun _ => False) w (x3.drew.setCells k2 0 Zo)) := Only.setCells (fun h => absurd h (by omega)) _ _ _ ((unhide O3).drew)
          refine bodyPost_ret (results_st2 rfl _ _ k2 32 Zo.toArray rfl (unhide HFBD) Tryd.rowObjM Tryd.sizeObj) rfl ?_
          exact ⟨.slice none 0 0, .slice none 0 0, .slice none 0 0, .slice none 0 0, by rw [unhide HRE]; rfl, by rw [unhide HRE]; exact in_zero _, fresh_none _, unhide OFD⟩
    · as_aux_lemma =>
        obtain ⟨x1, kc, f1, g1, dc, qc, sc⟩ := boxed wr #[.int .i64 0, .nilFunc] 83
        have honec : (#[Value.int .i64 11, .func (.func 43) #[] #[]] : Array Value).all (·.oneCell') = true := all_oneCell_toArray (cs := [Value.int .i64 11, .func (.func 43) #[] #[]]) (by intro u hu; simp only [List.mem_cons, List.not_mem_nil, or_false] at hu; rcases hu with rfl | rfl <;> rfl)
        have HTC : Hid (x1.there kc 0 (#[Value.int .i64 11, .func (.func 43) #[] #[]] : Array Value).size) := bx_there dc _ rfl
        have HOC := hide honec
        have HF1 := hide f1
        have HG1 := hide g1
        have hdc := setCells_bx dc [Value.int .i64 11, .func (.func 43) #[] #[]] rfl
        have qx : Only (fun j => j = kc) wr (x1.setCells kc 0 [Value.int .i64 11, .func (.func 43) #[] #[]]) := (qc.mono (T := fun j => j = kc) (fun _ _ e => e.elim)).trans (Only.setCells (S := fun j => j = kc) (fun _ => rfl) _ _ _ (Only.refl _ _)) (fun _ _ e => e)
        have hkc : wr.heap.size ≤ kc := by omega
        have qxf := qx.mono (T := fun _ => False) (fun j hj e => by omega)
        have rc := (unhide HCR).range 2 2
        obtain ⟨dsk, hku, hkr⟩ := row_desc Tryd.rowCond
        clear dc qc sc honec f1 g1 qx
        go_upto_region 5 with (first
          | (refine wpList_load_mid rfl 83 (.tmp 18) rfl b0 2 rfl [Value.int .i64 11, .func (.func 43) #[] #[]] dsk rc hku hkr Tryd.sizeCond ?_)
          | (rw [← unhide HF1, ← unhide HG1]; refine wpList_store_mid rfl 83 (.tmp 8) (.tmp 19) rfl kc 0 #[.int .i64 11, .func (.func 43) #[] #[]] rfl rfl (unhide HTC) Tryd.sizeCond (unhide HOC) ?_))
        try simp only [List.toList_toArray]
        generalize (x1.setCells kc 0 [Value.int .i64 11, .func (.func 43) #[] #[]]) = x2 at *
        clear HF1 HG1 HTC HOC rc
        have HKC := hide hdc
        have HBX := hide ((unhide HBR).same qxf)
        have HZX := hide ((unhide HZR).same qxf)
        have OX := hide ((unhide OWR).trans qxf (fun _ _ e => e))
        have ORX := hide ((unhide OR).trans qxf (fun _ _ e => e))
        have cf := (unhide HKC).cell 1 _ rfl
        have rp := prange42 o mv nv lv cv r msg oc now (unhide HD) (unhide HBX)
        have HS42 := hide (size42 o mv nv lv cv r msg oc now (unhide HD))
        have HCD := hide (mayNotActivate_any o mv nv lv cv r msg oc now x2 (unhide HD))
        rw [← unhide HA] at rp HS42 HCD
        clear hdc qxf
        go_wp2_with (refine wpList_load_mid rfl 56 (.tmp 2) rfl k1 0 rfl A dsp rp hpu hpr (unhide HS42) ?_)
        refine (unhide HCD).mono ?_
        rintro e x3 ⟨rfl, o3⟩
        have HK3 := hide ((unhide HKC).same o3)
        have HZ3 := hide ((unhide HZX).same o3)
        have O3 := hide ((unhide OX).trans o3 (fun _ _ e => e))
        have OR3 := hide ((unhide ORX).trans o3 (fun _ _ e => e))
        clear o3 cf rp HKC HZX OX ORX HBX HCD HS42
        cases hc : (!edgeB o.state 2) with
        | false =>
          have HCF : Hid ((!edgeB o.state 2) = false) := hc
          clear hc
          go_wp2
          go_roundw
          case rel => exact ⟨2, by omega, by go_num, unhide OR3, fun _ => unhide G0 (by decide), fun _ => unhide HCF⟩
          case measure => simp [intOf]
        | true =>
          have HCT : Hid ((!edgeB o.state 2) = true) := hc
          clear hc
          have HRE : Hid ((actE o) = 11) := by show _ = _; unfold actE; rw [unhide G0 (by decide), if_neg (by decide), if_neg (by have := unhide HCT; simpa using this)]
          have cr := (unhide HK3).cell 0 _ rfl
          have hthz : x3.there k2 0 Zo.toArray.size := bx_there (unhide HZ3) _ (by rw [List.size_toArray])
          have HFBZ : Hid (Bx (x3.setCells k2 0 Zo) k2 32 Zo) := setCells_bx (unhide HZ3) Zo rfl
          have OFZ : Hid (Only (fun _ => False) w (x3.setCells k2 0 Zo)) := Only.setCells (fun h => absurd h (by omega)) _ _ _ (unhide O3)
          go_upto_region 6 with fail
          have HTHD : Hid (x3.drew.there k2 0 Zo.toArray.size) := bx_there (b := k2) (t := 32) (cs := Zo) ((unhide HZ3).same ((Only.refl _ _).drew)) _ (by rw [List.size_toArray])
          have CR := hide cr
          have Q := hide ((Only.refl (fun j => j = k2) x3).drew)
          have hkck : ¬ kc = k2 := by have := (unhide HZR).lt; omega
          refine wp_region_held_drew (S := (fun w' => Only (fun j => j = k2) x3 w')) (by kernel_rfl) ((Only.refl _ _).drew) (fun hHeld => ?_)
          refine wpAnyH_take (i := 0) (v := ?v5) rfl (by kernel_rfl) (by kernel_rfl) (by kernel_rfl) (fun _ _ _ h => h) (Or.inl ⟨by rfl, ?hy5⟩) (by assumption) ?rest5
          case hy5 =>
            intro w hSw
            go_simp
            try with_reducible rfl
          try simp only [Act.put, List.setIfInBounds_toArray, List.set_cons_zero, List.set_cons_succ, List.getElem_toArray, List.getElem_cons_succ, List.getElem_cons_zero]
          rw [zo_eq]
          refine wpAnyH_take (i := 1) (v := ?v6) rfl (by kernel_rfl) (by kernel_rfl) (by kernel_rfl) (fun _ _ _ h => h) (Or.inl ⟨by rfl, ?hy6⟩) (by assumption) ?rest6
          case hy6 =>
            intro w hSw
            go_simp
            try with_reducible rfl
          try simp only [Act.put, List.setIfInBounds_toArray, List.set_cons_zero, List.set_cons_succ, List.getElem_toArray, List.getElem_cons_succ, List.getElem_cons_zero]
          refine wpAnyH_take (i := 2) (v := ?v7) rfl (by kernel_rfl) (by kernel_rfl) (by kernel_rfl) (fun _ _ _ h => h) (Or.inl ⟨by rfl, ?hy7⟩) (by assumption) ?rest7
          case hy7 =>
            intro w hSw
            (have q := hSw.cell (unhide CR) hkck; go_simp; try with_reducible rfl)
          try simp only [Act.put, List.setIfInBounds_toArray, List.set_cons_zero, List.set_cons_succ, List.getElem_toArray, List.getElem_cons_succ, List.getElem_cons_zero]
          refine wpAnyH_ready (rs := [3]) (by kernel_rfl) (by simp) ?_
          refine AllReadyH.cons rfl (fun K hK => ?_) AllReadyH.nil
          refine step_store_midA rfl 32 (.tmp 4) (.tmp 24) rfl k2 0 Zo.toArray rfl rfl (unhide HTHD) Tryd.sizeObj zo_one ?_
          refine hK.out _ _ ((Only.setCells (S := fun j => j = k2) (fun _ => rfl) _ _ _ (unhide Q))) (fun hHeld => ?_)
          clear hK K
          try simp only [Act.put, List.setIfInBounds_toArray, List.set_cons_zero, List.set_cons_succ, List.getElem_toArray, List.getElem_cons_succ, List.getElem_cons_zero]
          refine wpAnyH_take (i := 4) (v := ?v8) rfl (by kernel_rfl) (by kernel_rfl) (by kernel_rfl) (fun _ _ _ h => h) (Or.inl ⟨by rfl, ?hy8⟩) (by assumption) ?rest8
          case hy8 =>
            intro w hSw
            go_simp
            try with_reducible rfl
          try simp only [Act.put, List.setIfInBounds_toArray, List.set_cons_zero, List.set_cons_succ, List.getElem_toArray, List.getElem_cons_succ, List.getElem_cons_zero]
          refine wpAnyH_done (by kernel_rfl) ?_ _
          go_wp2
          have HFBD : Hid (Bx (x3.drew.setCells k2 0 Zo) k2 32 Zo) := setCells_bx ((unhide HZ3).same ((Only.refl _ _).drew)) Zo rfl
          have OFD : Hid (Only (fun _ => False) w (x3.drew.setCells k2 0 Zo)) := Only.setCells (fun h => absurd h (by omega)) _ _ _ ((unhide O3).drew)
          refine bodyPost_ret (results_st2 rfl _ _ k2 32 Zo.toArray rfl (unhide HFBD) Tryd.rowObjM Tryd.sizeObj) rfl ?_
          exact ⟨.slice none 0 0, .slice none 0 0, .slice none 0 0, .slice none 0 0, by rw [unhide HRE]; rfl, by rw [unhide HRE]; exact in_zero _, fresh_none _, unhide OFD⟩
    · as_aux_lemma =>
        have HE0 : Hid (actE o = 0) := by show _ = _; unfold actE; rw [unhide G0 (by decide), if_neg (by decide), if_pos (by have := unhide G1 (by decide); simpa using this)]
        have HTOLD : Hid (told (actE o) (actU o now) = actU o now) := by show _ = _; rw [unhide HE0]; rfl
        have rp := prange o mv nv lv cv r msg oc now (unhide HD) (unhide HBR)
        have hszo := size_cells o mv nv lv cv (unhide HD)
        have HCP := hide (copy_any o mv nv lv cv wr ((unhide HI).same (unhide OWR)) (unhide HSM))
        unfold val at HCP
        obtain ⟨C, hC⟩ : ∃ C, C = cells o mv nv lv cv := ⟨_, rfl⟩
        rw [← hC] at rp hszo HCP
        have cf3 := ((unhide HBC).same (unhide OR)).cell 1 _ rfl
        clear hC
        go_wp2_with (refine wpList_load_mid rfl 32 (.tmp 28) rfl k1 0 rfl C dsc rp hdu hdr hszo ?_)
        refine (unhide HCP).mono ?_
        rintro e y1 ⟨mw, nw, lw, cw, rfl, hin, hfr, o1⟩
        have hl37 := cells_len o mw nw lw cw (unhide HD)
        have hk1y : k1 < y1.heap.size := ((unhide HBR).same o1).lt
        have HTHP : Hid (y1.there k1 0 (cells o mw nw lw cw).toArray.size) := by
          intro j hj
          rw [List.size_toArray, hl37] at hj
          refine ⟨?_, ((unhide HBR).same o1).free _⟩
          rw [Nat.zero_add, ((unhide HBR).same o1).cell j _ (List.getElem?_eq_getElem (by rw [pcells_len o mv nv lv cv r msg oc now (unhide HD)]; omega))]
          rfl
        have HONEP := hide hin.one
        have HSZP := hide (size_cellsA o mw nw lw cw (unhide HD))
        have q2 : Only (fun j => j = k1) y1 (y1.setCells k1 0 (cells o mw nw lw cw)) := Only.setCells (S := fun j => j = k1) (fun _ => rfl) _ _ _ (Only.refl _ _)
        have HBP : Hid (Bx (y1.setCells k1 0 (cells o mw nw lw cw)) k1 56 (pcells o mw nw lw cw r msg oc now)) := by
          have h := setCells_blk (cells o mw nw lw cw) y1 0 _ ((unhide HBR).same o1)
          rw [setMany_eq _ _ _ (by rw [hl37, pcells_len o mv nv lv cv r msg oc now (unhide HD)]; omega), List.take_zero, List.nil_append, Nat.zero_add, hl37] at h
          rw [show (pcells o mv nv lv cv r msg oc now).drop 37 = ptail r msg oc now from by unfold pcells; rw [← cells_len o mv nv lv cv (unhide HD), List.drop_left]] at h
          exact h
        have hgt : ∀ j, (blk mw = some j ∨ blk nw = some j ∨ blk lw = some j ∨ blk cw = some j) → k3 < j := fun j hj => by have h1 := hfr j hj; have h2 := (unhide OR).size; omega
        have HIN2 := hide (hin.off q2 (fun j hj e => by have := hgt j hj; omega))
        have HZ2 := hide (((unhide HZR).same o1).only q2 (by show ¬ k2 = k1; omega))
        have O2 : Hid (Only (fun _ => False) w (y1.setCells k1 0 (cells o mw nw lw cw))) := ((unhide OWR).trans o1 (fun _ _ e => e)).trans q2 (fun j hj e => by omega)
        have cf4 := ((o1.mono (T := fun j => j = k1) (fun _ _ e => e.elim)).trans q2 (fun _ _ e => e)).cell cf3 (by show ¬ k3 = k1; omega)
        have HGT := hide hgt
        have HFR := hide hfr
        obtain ⟨D, hD⟩ : ∃ D, D = cells o mw nw lw cw := ⟨_, rfl⟩
        rw [← hD] at HTHP HONEP HSZP HBP HIN2 HZ2 O2 cf4 q2 ⊢
        clear hin hfr o1 hl37 hD rp hszo HCP cf3 hgt
        go_upto_region 9 with (refine wpList_store_mid rfl 32 (.tmp 31) (.tmp 30) rfl k1 0 D.toArray rfl rfl (unhide HTHP) (unhide HSZP) (unhide HONEP) ?_)
        try simp only [List.toList_toArray]
        generalize (y1.setCells k1 0 D) = y2 at *
        have rp2 := prange42 o mw nw lw cw r msg oc now (unhide HD) (unhide HBP)
        have HS2 := hide (size42 o mw nw lw cw r msg oc now (unhide HD))
        obtain ⟨_, _, em, _⟩ := (unhide HIN2).mat.shape
        obtain ⟨_, _, en, _⟩ := (unhide HIN2).names.shape
        obtain ⟨_, _, el, _⟩ := (unhide HIN2).links.shape
        obtain ⟨_, _, ec, _⟩ := (unhide HIN2).custom.shape
        have HMK := hide (activated_any o mw nw lw cw r msg oc now y2 (unhide HD) (by rw [em]; rfl) (by rw [en]; rfl) (by rw [el]; rfl) (by rw [ec]; rfl))
        have HIM : Hid (∀ w', Only (fun _ => False) y2 w' → In w' (dput { o with state := 2 } 1 (true, now)) mw nw lw cw) := fun w' q => by have h := (unhide HIN2).same q; exact ⟨h.mat, h.names, h.links, h.custom, (by show (List.set _ _ _).length = 10; rw [List.length_set]; exact h.ten), ⟨h.ints.1, h.ints.2.1, h.ints.2.2.1, h.ints.2.2.2.1, (by show W64 2; exact ⟨by decide, by decide⟩), h.ints.2.2.2.2.2⟩, (fun d hd => by rcases List.mem_or_eq_of_mem_set hd with hd | rfl; exact h.dats d hd; exact unhide HNW), h.lks, h.strs⟩
        obtain ⟨P2, hP2⟩ : ∃ P, P = pcells o mw nw lw cw r msg oc now := ⟨_, rfl⟩
        rw [← hP2] at rp2 HS2 HMK
        clear em en el ec hP2 q2
        go_wp2_with (refine wpList_load_mid rfl 56 (.tmp 2) rfl k1 0 rfl P2 dsp rp2 hpu hpr (unhide HS2) ?_)
        refine (unhide HMK).mono ?_
        rintro e y3 ⟨rfl, o3⟩
        have hin3 := unhide HIM y3 o3
        obtain ⟨y4, k4, e4, ek4, hb4, o4, ht4⟩ := made37 y3 (cells (dput { o with state := 2 } 1 (true, now)) mw nw lw cw) (cells_len _ _ _ _ _ hin3.ten)
        have HONE4 := hide hin3.one
        have HSZ4 := hide (size_cellsA (dput { o with state := 2 } 1 (true, now)) mw nw lw cw hin3.ten)
        have HTM : Hid (((dput { o with state := 2 } 1 (true, now)) : Ob).dates.length = 10) := hin3.ten
        have HIN4 := hide (hin3.same o4)
        have HBP4 := hide (((unhide HBP).same o3).same o4)
        have HZ4 := hide (((unhide HZ2).same o3).same o4)
        have O4 := hide (((unhide O2).trans o3 (fun _ _ e => e)).trans o4 (fun _ _ e => e))
        have hk4 : k2 < k4 := by have h1 := ((unhide HZ2).same o3).lt; omega
        have HAPM := hide (hin3.apart (k := k4) (by omega))
        have HT4 := hide ht4
        have HE4 := hide e4
        have HEK4 := hide ek4
        unfold val
        obtain ⟨M, hM⟩ : ∃ M, M = cells (dput { o with state := 2 } 1 (true, now)) mw nw lw cw := ⟨_, rfl⟩
        have HBM := hide hb4
        rw [← hM] at HT4 HE4 HONE4 HSZ4 ⊢
        clear hM hin3 o3 o4 hb4 e4 ek4 ht4 HMK rp2 HS2 HBP HZ2 O2 cf4
        go_upto_region 10 with (refine wpList_store_mid rfl 32 (.tmp 9) (.tmp 35) rfl y3.heap.size 0 M.toArray rfl rfl (unhide HT4) (unhide HSZ4) (unhide HONE4) ?_)
        rw [zo_eq, ← unhide HE4, ← unhide HEK4]
        clear HE4 HEK4 HT4 HONE4 HSZ4
        have cn := (unhide HBP4).cell 41 (.int .i64 now) (pcells_tail o mw nw lw cw r msg oc now (unhide HD) 4)
        have HON := hide (on_any now y4)
        go_wp2_with fail
        refine (unhide HON).mono ?_
        rintro e y5 ⟨rfl, o5⟩
        have hb5 := (unhide HBM).same o5
        have dz := get_date (dput { o with state := 2 } 1 (true, now)) mw nw lw cw (unhide HTM) 9 (by decide)
        have ca := hb5.cell 25 _ dz.1
        have cb := hb5.cell 26 _ dz.2
        have fz := hb5.free
        have HB6 : Hid (Bx ((y5.setCell ⟨k4, 25, none⟩ (.bool true)).setCell ⟨k4, 26, none⟩ (.int .i64 now)) k4 32 (cells (dput (dput { o with state := 2 } 1 (true, now)) 9 (true, now)) mw nw lw cw)) := by
          have h := setCells_blk [.bool true, .int .i64 now] y5 25 _ hb5
          rw [set_date (dput { o with state := 2 } 1 (true, now)) mw nw lw cw (unhide HTM) 9 (by decide) true now] at h
          exact h
        have q6 : Only (fun j => j = k4) y5 ((y5.setCell ⟨k4, 25, none⟩ (.bool true)).setCell ⟨k4, 26, none⟩ (.int .i64 now)) := ((Only.refl _ _).here _ _).here _ _
        have HZ6 := hide (((unhide HZ4).same o5).only q6 (by show ¬ k2 = k4; omega))
        have O6 : Hid (Only (fun _ => False) w ((y5.setCell ⟨k4, 25, none⟩ (.bool true)).setCell ⟨k4, 26, none⟩ (.int .i64 now))) := ((unhide O4).trans o5 (fun _ _ e => e)).trans q6 (fun j hj e => by omega)
        have HIN6 := hide (((unhide HIN4).same o5).offA q6 (unhide HAPM))
        go_upto_region 11 with fail
        generalize ((y5.setCell ⟨k4, 25, none⟩ (.bool true)).setCell ⟨k4, 26, none⟩ (.int .i64 now)) = y6 at *
        clear ca cb fz cn dz o5 hb5 q6 HON HBM HBP4 HZ4 O4 HIN4
        have hI6 : In y6 (actU o now) mw nw lw cw := by
          have h := unhide HIN6
          refine ⟨h.mat, h.names, h.links, h.custom, by show (List.set _ _ _).length = 10; rw [List.length_set]; exact h.ten, h.ints, fun d hd => ?_, h.lks, h.strs⟩
          rcases List.mem_or_eq_of_mem_set hd with hd | rfl
          · exact h.dats d hd
          · exact unhide HNW
        have hfr6 : Fresh4 w.heap.size mw nw lw cw := fun j hj => by have h1 := unhide HGT j hj; omega
        have hne2 : ∀ j, (blk mw = some j ∨ blk nw = some j ∨ blk lw = some j ∨ blk cw = some j) → ¬ j = k2 := fun j hj e => by have h1 := unhide HGT j hj; omega
        obtain ⟨hth, hfb, hin7, hof⟩ := fin37 hI6 hne2 (unhide HZ6) (cs0 := Zo) rfl
        have hr6 := Bx.whole (o := actU o now) (unhide HB6) hI6.ten
        have HSB := hide (size_cells (actU o now) mw nw lw cw hI6.ten)
        have HSA := hide (size_cellsA (actU o now) mw nw lw cw hI6.ten)
        have HON7 := hide hI6.one
        have HTH := hide hth
        have HFB := hide hfb
        have HIN7 := hide hin7
        have HOF := hide hof
        have HFR7 := hide hfr6
        obtain ⟨B, hB⟩ : ∃ B, B = cells (actU o now) mw nw lw cw := ⟨_, rfl⟩
        rw [← hB] at hr6 HSB HSA HON7 HTH HFB HIN7 HOF
        have HBB := hide hB
        clear hth hfb hin7 hof hI6 hfr6 hB hne2
        go_wp2_with (first
          | (refine wpList_load_mid rfl 32 (.tmp 9) rfl k4 0 rfl B dsc hr6 hdu hdr (unhide HSB) ?_)
          | (refine wpList_store_mid rfl 32 (.tmp 4) (.tmp 41) rfl k2 0 B.toArray rfl rfl (unhide HTH) (unhide HSA) (unhide HON7) ?_))
        refine bodyPost_ret (results_st2 rfl _ _ k2 32 B.toArray rfl (unhide HFB) Tryd.rowObjM (unhide HSA)) rfl ?_
        refine ⟨mw, nw, lw, cw, ?_, by rw [unhide HTOLD]; exact unhide HIN7, unhide HFR7, (unhide O6).trans (T := fun j => j = k2) (unhide HOF) (fun j hj e => by omega)⟩
        rw [unhide HTOLD, unhide HE0, unhide HBB]
        rfl
set_option maxRecDepth 100000 in
set_option maxHeartbeats 8000000 in
theorem answer2_any (o : Ob) (mv nv lv cv : Value) (r : Int) (msg : List UInt8) (oc : Bool × Int) (now : Int) (w : World) (I : In w o mv nv lv cv) (S : Small o) (hn : W64 now) :
    Calls Tryd.prog 26 #[.agg (pcells o mv nv lv cv r msg oc now).toArray, .int .i64 2] w fun e w' => Ans w w' e (told (desE o) (desU o now)) (desE o) := by
  have hd := I.ten
  obtain ⟨w1, k1, e1, ek1, hb1, o1, hs1⟩ := boxed w (pcells o mv nv lv cv r msg oc now).toArray 56
  obtain ⟨w2, k2, e2, ek2, hb2, o2, hs2⟩ := boxed w1 Zo.toArray 32
  rw [List.toList_toArray] at hb1
  have OW := hide (o1.trans o2 (fun _ _ e => e))
  have HB := hide (hb1.same o2)
  have HZ : Hid (Bx w2 k2 32 Zo) := hb2
  have hk1 : w.heap.size ≤ k1 := by omega
  have hk2 : k1 < k2 := by omega
  have hk2s : k2 < w2.heap.size := by omega
  have HI := hide I
  have HSM := hide S
  have HNW := hide hn
  have HD := hide hd
  have HE1 := hide e1
  have HEK1 := hide ek1
  have HE2 := hide e2
  have HK12 : Hid (k1 + 1 = k2) := by show _ = _; omega
  have HCL := hide (calls_any w2)
  obtain ⟨dsc, hdu, hdr⟩ := row_desc Tryd.rowObj
  obtain ⟨dsp, hpu, hpr⟩ := row_desc Tryd.rowPlea
  obtain ⟨A, hA⟩ : ∃ A, A = pcells o mv nv lv cv r msg oc now := ⟨_, rfl⟩
  have HA := hide hA
  rw [← hA] at HE1 ⊢
  clear hA hb1 hb2 o1 o2 hs1 hs2 e1 ek1 e2 ek2 hd I S hn
  go_enter Tryd.func26, Tryd.ntmps26
  go_upto_region 1 with fail
  rw [zo_eq, ← unhide HE1, ← unhide HEK1, ← unhide HE2, unhide HK12]
  clear HE1 HEK1 HE2
  go_wp2_with fail
  refine (unhide HCL).mono ?_
  rintro e w3 ⟨b0, b1, b2, b3, b4, rfl, d0, d1, d2, d3, d4, o3⟩
  have hix : ∀ W, (Instr.index 79 (.agg (callsV b0 b1 b2 b3 b4).toArray) (.int .i64 2)).run Tryd.prog W = .ok (.agg #[.slice (some ⟨b2, 0, none⟩) 2 2, .func (.func 49) #[] #[]]) W := fun W => by kernel_rfl
  have HDQ : Hid (Bx w3 b2 83 cond2) := d2
  have HB3 := hide ((unhide HB).same o3)
  have HZ3 := hide ((unhide HZ).same o3)
  have O3 := hide ((unhide OW).trans o3 (fun _ _ e => e))
  have hk23 : k2 < w3.heap.size := by have := o3.size; omega
  clear d0 d1 d2 d3 d4 o3 HB HZ OW HCL
  obtain ⟨w4, k3, e4, ek3, hb4, o4, hs4⟩ := boxed w3 #[.slice none 0 0, .nilFunc] 78
  have hone4 : (#[Value.slice (some ⟨b2, 0, none⟩) 2 2, .func (.func 49) #[] #[]] : Array Value).all (·.oneCell') = true := all_oneCell_toArray (cs := [Value.slice (some ⟨b2, 0, none⟩) 2 2, .func (.func 49) #[] #[]]) (by intro u hu; simp only [List.mem_cons, List.not_mem_nil, or_false] at hu; rcases hu with rfl | rfl <;> rfl)
  have HTH4 : Hid (w4.there k3 0 (#[Value.slice (some ⟨b2, 0, none⟩) 2 2, .func (.func 49) #[] #[]] : Array Value).size) := bx_there hb4 _ rfl
  have HONE4 := hide hone4
  have HE4 := hide e4
  have HEK3 := hide ek3
  have hk3 : w3.heap.size ≤ k3 := by omega
  have hbq : b2 < w3.heap.size := (unhide HDQ).lt
  have q5 : Only (fun j => j = k3) w3 (w4.setCells k3 0 [Value.slice (some ⟨b2, 0, none⟩) 2 2, .func (.func 49) #[] #[]]) := (o4.mono (T := fun j => j = k3) (fun _ _ e => e.elim)).trans (Only.setCells (S := fun j => j = k3) (fun _ => rfl) _ _ _ (Only.refl _ _)) (fun _ _ e => e)
  have hb5 := setCells_bx hb4 [Value.slice (some ⟨b2, 0, none⟩) 2 2, .func (.func 49) #[] #[]] rfl
  go_upto_region 2 with (first
    | (rw [← unhide HE4, ← unhide HEK3]; refine wpList_store_mid rfl 78 (.tmp 6) (.tmp 12) rfl k3 0 #[.slice (some ⟨b2, 0, none⟩) 2 2, .func (.func 49) #[] #[]] rfl rfl (unhide HTH4) Tryd.sizeCall2 (unhide HONE4) ?_))
  try simp only [List.toList_toArray]
  generalize (w4.setCells k3 0 [Value.slice (some ⟨b2, 0, none⟩) 2 2, .func (.func 49) #[] #[]]) = w5 at *
  have HBC := hide hb5
  have HDQ5 := hide ((unhide HDQ).only q5 (by show ¬ b2 = k3; omega))
  have HB5 := hide ((unhide HB3).only q5 (by show ¬ k1 = k3; omega))
  have HZ5 := hide ((unhide HZ3).only q5 (by show ¬ k2 = k3; omega))
  have O5 : Hid (Only (fun _ => False) w w5) := (unhide O3).trans q5 (fun j hj e => by omega)
  have hk35 : k3 < w5.heap.size := hb5.lt
  clear hb4 o4 hs4 hone4 HTH4 HONE4 HE4 HEK3 e4 ek3 q5 hb5 HDQ HB3 HZ3 O3 hix
  have c30 := (unhide HBC).cell 0 _ rfl
  go_wp2
  go_loopw [16] (fun i wr => ∃ k : Nat, k ≤ 2 ∧ i = .int .i64 k ∧ Hid (Only (fun _ => False) w5 wr) ∧ Hid (0 < k → (o.arch) = false) ∧ Hid (1 < k → (!edgeB o.state (whenD o)) = false)) (fun i _ => 2 - (intOf i).toNat)
  case atStart => exact ⟨0, Nat.zero_le _, rfl, Only.refl _ _, fun h => absurd h (by omega), fun h => absurd h (by omega)⟩
  case round =>
    rename World => wr
    obtain ⟨k, hk, rfl, OR, G0, G1⟩ := hrel
    have hkc : k = 0 ∨ k = 1 ∨ k = 2 := by omega
    have HCR := hide ((unhide HDQ5).same (unhide OR))
    have HBR := hide ((unhide HB5).same (unhide OR))
    have HZR := hide ((unhide HZ5).same (unhide OR))
    have OWR := hide ((unhide O5).trans (unhide OR) (fun _ _ e => e))
    clear c30
    rcases hkc with rfl | rfl | rfl
    · as_aux_lemma =>
        obtain ⟨x1, kc, f1, g1, dc, qc, sc⟩ := boxed wr #[.int .i64 0, .nilFunc] 83
        have honec : (#[Value.int .i64 13, .func (.func 42) #[] #[]] : Array Value).all (·.oneCell') = true := all_oneCell_toArray (cs := [Value.int .i64 13, .func (.func 42) #[] #[]]) (by intro u hu; simp only [List.mem_cons, List.not_mem_nil, or_false] at hu; rcases hu with rfl | rfl <;> rfl)
        have HTC : Hid (x1.there kc 0 (#[Value.int .i64 13, .func (.func 42) #[] #[]] : Array Value).size) := bx_there dc _ rfl
        have HOC := hide honec
        have HF1 := hide f1
        have HG1 := hide g1
        have hdc := setCells_bx dc [Value.int .i64 13, .func (.func 42) #[] #[]] rfl
        have qx : Only (fun j => j = kc) wr (x1.setCells kc 0 [Value.int .i64 13, .func (.func 42) #[] #[]]) := (qc.mono (T := fun j => j = kc) (fun _ _ e => e.elim)).trans (Only.setCells (S := fun j => j = kc) (fun _ => rfl) _ _ _ (Only.refl _ _)) (fun _ _ e => e)
        have hkc : wr.heap.size ≤ kc := by omega
        have qxf := qx.mono (T := fun _ => False) (fun j hj e => by omega)
        have rc := (unhide HCR).range 0 2
        obtain ⟨dsk, hku, hkr⟩ := row_desc Tryd.rowCond
        clear dc qc sc honec f1 g1 qx
        go_upto_region 5 with (first
          | (refine wpList_load_mid rfl 83 (.tmp 18) rfl b2 0 rfl [Value.int .i64 13, .func (.func 42) #[] #[]] dsk rc hku hkr Tryd.sizeCond ?_)
          | (rw [← unhide HF1, ← unhide HG1]; refine wpList_store_mid rfl 83 (.tmp 8) (.tmp 19) rfl kc 0 #[.int .i64 13, .func (.func 42) #[] #[]] rfl rfl (unhide HTC) Tryd.sizeCond (unhide HOC) ?_))
        try simp only [List.toList_toArray]
        generalize (x1.setCells kc 0 [Value.int .i64 13, .func (.func 42) #[] #[]]) = x2 at *
        clear HF1 HG1 HTC HOC rc
        have HKC := hide hdc
        have HBX := hide ((unhide HBR).same qxf)
        have HZX := hide ((unhide HZR).same qxf)
        have OX := hide ((unhide OWR).trans qxf (fun _ _ e => e))
        have ORX := hide ((unhide OR).trans qxf (fun _ _ e => e))
        have cf := (unhide HKC).cell 1 _ rfl
        have rp := prange42 o mv nv lv cv r msg oc now (unhide HD) (unhide HBX)
        have HS42 := hide (size42 o mv nv lv cv r msg oc now (unhide HD))
        have HCD := hide (isArchived_any o mv nv lv cv r msg oc now x2 (unhide HD))
        rw [← unhide HA] at rp HS42 HCD
        clear hdc qxf
        go_wp2_with (refine wpList_load_mid rfl 56 (.tmp 2) rfl k1 0 rfl A dsp rp hpu hpr (unhide HS42) ?_)
        refine (unhide HCD).mono ?_
        rintro e x3 ⟨rfl, o3⟩
        have HK3 := hide ((unhide HKC).same o3)
        have HZ3 := hide ((unhide HZX).same o3)
        have O3 := hide ((unhide OX).trans o3 (fun _ _ e => e))
        have OR3 := hide ((unhide ORX).trans o3 (fun _ _ e => e))
        clear o3 cf rp HKC HZX OX ORX HBX HCD HS42
        cases hc : (o.arch) with
        | false =>
          have HCF : Hid ((o.arch) = false) := hc
          clear hc
          go_wp2
          go_roundw
          case rel => exact ⟨1, by omega, by go_num, unhide OR3, fun _ => unhide HCF, fun h => absurd h (by omega)⟩
          case measure => simp [intOf]
        | true =>
          have HCT : Hid ((o.arch) = true) := hc
          clear hc
          have HRE : Hid ((desE o) = 13) := by show _ = _; unfold desE; rw [unhide HCT]; rfl
          have cr := (unhide HK3).cell 0 _ rfl
          have hthz : x3.there k2 0 Zo.toArray.size := bx_there (unhide HZ3) _ (by rw [List.size_toArray])
          have HFBZ : Hid (Bx (x3.setCells k2 0 Zo) k2 32 Zo) := setCells_bx (unhide HZ3) Zo rfl
          have OFZ : Hid (Only (fun _ => False) w (x3.setCells k2 0 Zo)) := Only.setCells (fun h => absurd h (by omega)) _ _ _ (unhide O3)
          go_upto_region 6 with fail
          have HTHD : Hid (x3.drew.there k2 0 Zo.toArray.size) := bx_there (b := k2) (t := 32) (cs := Zo) ((unhide HZ3).same ((Only.refl _ _).drew)) _ (by rw [List.size_toArray])
          have CR := hide cr
          have Q := hide ((Only.refl (fun j => j = k2) x3).drew)
          have hkck : ¬ kc = k2 := by have := (unhide HZR).lt; omega
          refine wp_region_held_drew (S := (fun w' => Only (fun j => j = k2) x3 w')) (by kernel_rfl) ((Only.refl _ _).drew) (fun hHeld => ?_)
          refine wpAnyH_take (i := 0) (v := ?v9) rfl (by kernel_rfl) (by kernel_rfl) (by kernel_rfl) (fun _ _ _ h => h) (Or.inl ⟨by rfl, ?hy9⟩) (by assumption) ?rest9
          case hy9 =>
            intro w hSw
            go_simp
            try with_reducible rfl
          try simp only [Act.put, List.setIfInBounds_toArray, List.set_cons_zero, List.set_cons_succ, List.getElem_toArray, List.getElem_cons_succ, List.getElem_cons_zero]
          rw [zo_eq]
          refine wpAnyH_take (i := 1) (v := ?v10) rfl (by kernel_rfl) (by kernel_rfl) (by kernel_rfl) (fun _ _ _ h => h) (Or.inl ⟨by rfl, ?hy10⟩) (by assumption) ?rest10
          case hy10 =>
            intro w hSw
            go_simp
            try with_reducible rfl
          try simp only [Act.put, List.setIfInBounds_toArray, List.set_cons_zero, List.set_cons_succ, List.getElem_toArray, List.getElem_cons_succ, List.getElem_cons_zero]
          refine wpAnyH_take (i := 2) (v := ?v11) rfl (by kernel_rfl) (by kernel_rfl) (by kernel_rfl) (fun _ _ _ h => h) (Or.inl ⟨by rfl, ?hy11⟩) (by assumption) ?rest11
          case hy11 =>
            intro w hSw
            (have q := hSw.cell (unhide CR) hkck; go_simp; try with_reducible rfl)
          try simp only [Act.put, List.setIfInBounds_toArray, List.set_cons_zero, List.set_cons_succ, List.getElem_toArray, List.getElem_cons_succ, List.getElem_cons_zero]
          refine wpAnyH_ready (rs := [3]) (by kernel_rfl) (by simp) ?_
          refine AllReadyH.cons rfl (fun K hK => ?_) AllReadyH.nil
          refine step_store_midA rfl 32 (.tmp 4) (.tmp 24) rfl k2 0 Zo.toArray rfl rfl (unhide HTHD) Tryd.sizeObj zo_one ?_
          refine hK.out _ _ ((Only.setCells (S := fun j => j = k2) (fun _ => rfl) _ _ _ (unhide Q))) (fun hHeld => ?_)
          clear hK K
          try simp only [Act.put, List.setIfInBounds_toArray, List.set_cons_zero, List.set_cons_succ, List.getElem_toArray, List.getElem_cons_succ, List.getElem_cons_zero]
          refine wpAnyH_take (i := 4) (v := ?v12) rfl (by kernel_rfl) (by kernel_rfl) (by kernel_rfl) (fun _ _ _ h => h) (Or.inl ⟨by rfl, ?hy12⟩) (by assumption) ?rest12
          case hy12 =>
            intro w hSw
            go_simp
            try with_reducible rfl
          try simp only [Act.put, List.setIfInBounds_toArray, List.set_cons_zero, List.set_cons_succ, List.getElem_toArray, List.getElem_cons_succ, List.getElem_cons_zero]
          refine wpAnyH_done (by kernel_rfl) ?_ _
          go_wp2
          have HFBD : Hid (Bx (x3.drew.setCells k2 0 Zo) k2 32 Zo) := setCells_bx ((unhide HZ3).same ((Only.refl _ _).drew)) Zo rfl
          have OFD : Hid (Only (fun _ => False) w (x3.drew.setCells k2 0 Zo)) := Only.setCells (fun h => absurd h (by omega)) _ _ _ ((unhide O3).drew)
          refine bodyPost_ret (results_st2 rfl _ _ k2 32 Zo.toArray rfl (unhide HFBD) Tryd.rowObjM Tryd.sizeObj) rfl ?_
          exact ⟨.slice none 0 0, .slice none 0 0, .slice none 0 0, .slice none 0 0, by rw [unhide HRE]; rfl, by rw [unhide HRE]; exact in_zero _, fresh_none _, unhide OFD⟩
    · as_aux_lemma =>
        obtain ⟨x1, kc, f1, g1, dc, qc, sc⟩ := boxed wr #[.int .i64 0, .nilFunc] 83
        have honec : (#[Value.int .i64 11, .func (.func 48) #[] #[]] : Array Value).all (·.oneCell') = true := all_oneCell_toArray (cs := [Value.int .i64 11, .func (.func 48) #[] #[]]) (by intro u hu; simp only [List.mem_cons, List.not_mem_nil, or_false] at hu; rcases hu with rfl | rfl <;> rfl)
        have HTC : Hid (x1.there kc 0 (#[Value.int .i64 11, .func (.func 48) #[] #[]] : Array Value).size) := bx_there dc _ rfl
        have HOC := hide honec
        have HF1 := hide f1
        have HG1 := hide g1
        have hdc := setCells_bx dc [Value.int .i64 11, .func (.func 48) #[] #[]] rfl
        have qx : Only (fun j => j = kc) wr (x1.setCells kc 0 [Value.int .i64 11, .func (.func 48) #[] #[]]) := (qc.mono (T := fun j => j = kc) (fun _ _ e => e.elim)).trans (Only.setCells (S := fun j => j = kc) (fun _ => rfl) _ _ _ (Only.refl _ _)) (fun _ _ e => e)
        have hkc : wr.heap.size ≤ kc := by omega
        have qxf := qx.mono (T := fun _ => False) (fun j hj e => by omega)
        have rc := (unhide HCR).range 2 2
        obtain ⟨dsk, hku, hkr⟩ := row_desc Tryd.rowCond
        clear dc qc sc honec f1 g1 qx
        go_upto_region 5 with (first
          | (refine wpList_load_mid rfl 83 (.tmp 18) rfl b2 2 rfl [Value.int .i64 11, .func (.func 48) #[] #[]] dsk rc hku hkr Tryd.sizeCond ?_)
          | (rw [← unhide HF1, ← unhide HG1]; refine wpList_store_mid rfl 83 (.tmp 8) (.tmp 19) rfl kc 0 #[.int .i64 11, .func (.func 48) #[] #[]] rfl rfl (unhide HTC) Tryd.sizeCond (unhide HOC) ?_))
        try simp only [List.toList_toArray]
        generalize (x1.setCells kc 0 [Value.int .i64 11, .func (.func 48) #[] #[]]) = x2 at *
        clear HF1 HG1 HTC HOC rc
        have HKC := hide hdc
        have HBX := hide ((unhide HBR).same qxf)
        have HZX := hide ((unhide HZR).same qxf)
        have OX := hide ((unhide OWR).trans qxf (fun _ _ e => e))
        have ORX := hide ((unhide OR).trans qxf (fun _ _ e => e))
        have cf := (unhide HKC).cell 1 _ rfl
        have rp := prange42 o mv nv lv cv r msg oc now (unhide HD) (unhide HBX)
        have HS42 := hide (size42 o mv nv lv cv r msg oc now (unhide HD))
        have HCD := hide (mayNotDestroy_any o mv nv lv cv r msg oc now x2 (unhide HD))
        rw [← unhide HA] at rp HS42 HCD
        clear hdc qxf
        go_wp2_with (refine wpList_load_mid rfl 56 (.tmp 2) rfl k1 0 rfl A dsp rp hpu hpr (unhide HS42) ?_)
        refine (unhide HCD).mono ?_
        rintro e x3 ⟨rfl, o3⟩
        have HK3 := hide ((unhide HKC).same o3)
        have HZ3 := hide ((unhide HZX).same o3)
        have O3 := hide ((unhide OX).trans o3 (fun _ _ e => e))
        have OR3 := hide ((unhide ORX).trans o3 (fun _ _ e => e))
        clear o3 cf rp HKC HZX OX ORX HBX HCD HS42
        cases hc : (!edgeB o.state (whenD o)) with
        | false =>
          have HCF : Hid ((!edgeB o.state (whenD o)) = false) := hc
          clear hc
          go_wp2
          go_roundw
          case rel => exact ⟨2, by omega, by go_num, unhide OR3, fun _ => unhide G0 (by decide), fun _ => unhide HCF⟩
          case measure => simp [intOf]
        | true =>
          have HCT : Hid ((!edgeB o.state (whenD o)) = true) := hc
          clear hc
          have HRE : Hid ((desE o) = 11) := by show _ = _; unfold desE; rw [unhide G0 (by decide), if_neg (by decide), if_neg (by have := unhide HCT; simpa using this)]
          have cr := (unhide HK3).cell 0 _ rfl
          have hthz : x3.there k2 0 Zo.toArray.size := bx_there (unhide HZ3) _ (by rw [List.size_toArray])
          have HFBZ : Hid (Bx (x3.setCells k2 0 Zo) k2 32 Zo) := setCells_bx (unhide HZ3) Zo rfl
          have OFZ : Hid (Only (fun _ => False) w (x3.setCells k2 0 Zo)) := Only.setCells (fun h => absurd h (by omega)) _ _ _ (unhide O3)
          go_upto_region 6 with fail
          have HTHD : Hid (x3.drew.there k2 0 Zo.toArray.size) := bx_there (b := k2) (t := 32) (cs := Zo) ((unhide HZ3).same ((Only.refl _ _).drew)) _ (by rw [List.size_toArray])
          have CR := hide cr
          have Q := hide ((Only.refl (fun j => j = k2) x3).drew)
          have hkck : ¬ kc = k2 := by have := (unhide HZR).lt; omega
          refine wp_region_held_drew (S := (fun w' => Only (fun j => j = k2) x3 w')) (by kernel_rfl) ((Only.refl _ _).drew) (fun hHeld => ?_)
          refine wpAnyH_take (i := 0) (v := ?v13) rfl (by kernel_rfl) (by kernel_rfl) (by kernel_rfl) (fun _ _ _ h => h) (Or.inl ⟨by rfl, ?hy13⟩) (by assumption) ?rest13
          case hy13 =>
            intro w hSw
            go_simp
            try with_reducible rfl
          try simp only [Act.put, List.setIfInBounds_toArray, List.set_cons_zero, List.set_cons_succ, List.getElem_toArray, List.getElem_cons_succ, List.getElem_cons_zero]
          rw [zo_eq]
          refine wpAnyH_take (i := 1) (v := ?v14) rfl (by kernel_rfl) (by kernel_rfl) (by kernel_rfl) (fun _ _ _ h => h) (Or.inl ⟨by rfl, ?hy14⟩) (by assumption) ?rest14
          case hy14 =>
            intro w hSw
            go_simp
            try with_reducible rfl
          try simp only [Act.put, List.setIfInBounds_toArray, List.set_cons_zero, List.set_cons_succ, List.getElem_toArray, List.getElem_cons_succ, List.getElem_cons_zero]
          refine wpAnyH_take (i := 2) (v := ?v15) rfl (by kernel_rfl) (by kernel_rfl) (by kernel_rfl) (fun _ _ _ h => h) (Or.inl ⟨by rfl, ?hy15⟩) (by assumption) ?rest15
          case hy15 =>
            intro w hSw
            (have q := hSw.cell (unhide CR) hkck; go_simp; try with_reducible rfl)
          try simp only [Act.put, List.setIfInBounds_toArray, List.set_cons_zero, List.set_cons_succ, List.getElem_toArray, List.getElem_cons_succ, List.getElem_cons_zero]
          refine wpAnyH_ready (rs := [3]) (by kernel_rfl) (by simp) ?_
          refine AllReadyH.cons rfl (fun K hK => ?_) AllReadyH.nil
          refine step_store_midA rfl 32 (.tmp 4) (.tmp 24) rfl k2 0 Zo.toArray rfl rfl (unhide HTHD) Tryd.sizeObj zo_one ?_
          refine hK.out _ _ ((Only.setCells (S := fun j => j = k2) (fun _ => rfl) _ _ _ (unhide Q))) (fun hHeld => ?_)
          clear hK K
          try simp only [Act.put, List.setIfInBounds_toArray, List.set_cons_zero, List.set_cons_succ, List.getElem_toArray, List.getElem_cons_succ, List.getElem_cons_zero]
          refine wpAnyH_take (i := 4) (v := ?v16) rfl (by kernel_rfl) (by kernel_rfl) (by kernel_rfl) (fun _ _ _ h => h) (Or.inl ⟨by rfl, ?hy16⟩) (by assumption) ?rest16
          case hy16 =>
            intro w hSw
            go_simp
            try with_reducible rfl
          try simp only [Act.put, List.setIfInBounds_toArray, List.set_cons_zero, List.set_cons_succ, List.getElem_toArray, List.getElem_cons_succ, List.getElem_cons_zero]
          refine wpAnyH_done (by kernel_rfl) ?_ _
          go_wp2
          have HFBD : Hid (Bx (x3.drew.setCells k2 0 Zo) k2 32 Zo) := setCells_bx ((unhide HZ3).same ((Only.refl _ _).drew)) Zo rfl
          have OFD : Hid (Only (fun _ => False) w (x3.drew.setCells k2 0 Zo)) := Only.setCells (fun h => absurd h (by omega)) _ _ _ ((unhide O3).drew)
          refine bodyPost_ret (results_st2 rfl _ _ k2 32 Zo.toArray rfl (unhide HFBD) Tryd.rowObjM Tryd.sizeObj) rfl ?_
          exact ⟨.slice none 0 0, .slice none 0 0, .slice none 0 0, .slice none 0 0, by rw [unhide HRE]; rfl, by rw [unhide HRE]; exact in_zero _, fresh_none _, unhide OFD⟩
    · as_aux_lemma =>
        have HE0 : Hid (desE o = 0) := by show _ = _; unfold desE; rw [unhide G0 (by decide), if_neg (by decide), if_pos (by have := unhide G1 (by decide); simpa using this)]
        have HTOLD : Hid (told (desE o) (desU o now) = desU o now) := by show _ = _; rw [unhide HE0]; rfl
        have rp := prange o mv nv lv cv r msg oc now (unhide HD) (unhide HBR)
        have hszo := size_cells o mv nv lv cv (unhide HD)
        have HCP := hide (copy_any o mv nv lv cv wr ((unhide HI).same (unhide OWR)) (unhide HSM))
        unfold val at HCP
        obtain ⟨C, hC⟩ : ∃ C, C = cells o mv nv lv cv := ⟨_, rfl⟩
        rw [← hC] at rp hszo HCP
        have cf3 := ((unhide HBC).same (unhide OR)).cell 1 _ rfl
        clear hC
        go_wp2_with (refine wpList_load_mid rfl 32 (.tmp 28) rfl k1 0 rfl C dsc rp hdu hdr hszo ?_)
        refine (unhide HCP).mono ?_
        rintro e y1 ⟨mw, nw, lw, cw, rfl, hin, hfr, o1⟩
        have hl37 := cells_len o mw nw lw cw (unhide HD)
        have hk1y : k1 < y1.heap.size := ((unhide HBR).same o1).lt
        have HTHP : Hid (y1.there k1 0 (cells o mw nw lw cw).toArray.size) := by
          intro j hj
          rw [List.size_toArray, hl37] at hj
          refine ⟨?_, ((unhide HBR).same o1).free _⟩
          rw [Nat.zero_add, ((unhide HBR).same o1).cell j _ (List.getElem?_eq_getElem (by rw [pcells_len o mv nv lv cv r msg oc now (unhide HD)]; omega))]
          rfl
        have HONEP := hide hin.one
        have HSZP := hide (size_cellsA o mw nw lw cw (unhide HD))
        have q2 : Only (fun j => j = k1) y1 (y1.setCells k1 0 (cells o mw nw lw cw)) := Only.setCells (S := fun j => j = k1) (fun _ => rfl) _ _ _ (Only.refl _ _)
        have HBP : Hid (Bx (y1.setCells k1 0 (cells o mw nw lw cw)) k1 56 (pcells o mw nw lw cw r msg oc now)) := by
          have h := setCells_blk (cells o mw nw lw cw) y1 0 _ ((unhide HBR).same o1)
          rw [setMany_eq _ _ _ (by rw [hl37, pcells_len o mv nv lv cv r msg oc now (unhide HD)]; omega), List.take_zero, List.nil_append, Nat.zero_add, hl37] at h
          rw [show (pcells o mv nv lv cv r msg oc now).drop 37 = ptail r msg oc now from by unfold pcells; rw [← cells_len o mv nv lv cv (unhide HD), List.drop_left]] at h
          exact h
        have hgt : ∀ j, (blk mw = some j ∨ blk nw = some j ∨ blk lw = some j ∨ blk cw = some j) → k3 < j := fun j hj => by have h1 := hfr j hj; have h2 := (unhide OR).size; omega
        have HIN2 := hide (hin.off q2 (fun j hj e => by have := hgt j hj; omega))
        have HZ2 := hide (((unhide HZR).same o1).only q2 (by show ¬ k2 = k1; omega))
        have O2 : Hid (Only (fun _ => False) w (y1.setCells k1 0 (cells o mw nw lw cw))) := ((unhide OWR).trans o1 (fun _ _ e => e)).trans q2 (fun j hj e => by omega)
        have cf4 := ((o1.mono (T := fun j => j = k1) (fun _ _ e => e.elim)).trans q2 (fun _ _ e => e)).cell cf3 (by show ¬ k3 = k1; omega)
        have HGT := hide hgt
        have HFR := hide hfr
        obtain ⟨D, hD⟩ : ∃ D, D = cells o mw nw lw cw := ⟨_, rfl⟩
        rw [← hD] at HTHP HONEP HSZP HBP HIN2 HZ2 O2 cf4 q2 ⊢
        clear hin hfr o1 hl37 hD rp hszo HCP cf3 hgt
        go_upto_region 9 with (refine wpList_store_mid rfl 32 (.tmp 31) (.tmp 30) rfl k1 0 D.toArray rfl rfl (unhide HTHP) (unhide HSZP) (unhide HONEP) ?_)
        try simp only [List.toList_toArray]
        generalize (y1.setCells k1 0 D) = y2 at *
        have rp2 := prange42 o mw nw lw cw r msg oc now (unhide HD) (unhide HBP)
        have HS2 := hide (size42 o mw nw lw cw r msg oc now (unhide HD))
        obtain ⟨_, _, em, _⟩ := (unhide HIN2).mat.shape
        obtain ⟨_, _, en, _⟩ := (unhide HIN2).names.shape
        obtain ⟨_, _, el, _⟩ := (unhide HIN2).links.shape
        obtain ⟨_, _, ec, _⟩ := (unhide HIN2).custom.shape
        have HMK := hide (destroyed_any o mw nw lw cw r msg oc now y2 (unhide HD) (by rw [em]; rfl) (by rw [en]; rfl) (by rw [el]; rfl) (by rw [ec]; rfl))
        have HIM : Hid (∀ w', Only (fun _ => False) y2 w' → In w' (dput { o with state := whenD o, mat := [] } 5 (true, now)) (.slice none 0 0) nw lw cw) := fun w' q => by have h := (unhide HIN2).same q; exact ⟨Or.inl ⟨rfl, rfl⟩, h.names, h.links, h.custom, (by show (List.set _ _ _).length = 10; rw [List.length_set]; exact h.ten), ⟨h.ints.1, h.ints.2.1, h.ints.2.2.1, h.ints.2.2.2.1, (by show W64 (whenD o); unfold whenD; split <;> exact ⟨by decide, by decide⟩), h.ints.2.2.2.2.2⟩, (fun d hd => by rcases List.mem_or_eq_of_mem_set hd with hd | rfl; exact h.dats d hd; exact unhide HNW), h.lks, h.strs⟩
        obtain ⟨P2, hP2⟩ : ∃ P, P = pcells o mw nw lw cw r msg oc now := ⟨_, rfl⟩
        rw [← hP2] at rp2 HS2 HMK
        clear em en el ec hP2 q2
        go_wp2_with (refine wpList_load_mid rfl 56 (.tmp 2) rfl k1 0 rfl P2 dsp rp2 hpu hpr (unhide HS2) ?_)
        refine (unhide HMK).mono ?_
        rintro e y3 ⟨rfl, o3⟩
        have hin3 := unhide HIM y3 o3
        obtain ⟨y4, k4, e4, ek4, hb4, o4, ht4⟩ := made37 y3 (cells (dput { o with state := whenD o, mat := [] } 5 (true, now)) (.slice none 0 0) nw lw cw) (cells_len _ _ _ _ _ hin3.ten)
        have HONE4 := hide hin3.one
        have HSZ4 := hide (size_cellsA (dput { o with state := whenD o, mat := [] } 5 (true, now)) (.slice none 0 0) nw lw cw hin3.ten)
        have HTM : Hid (((dput { o with state := whenD o, mat := [] } 5 (true, now)) : Ob).dates.length = 10) := hin3.ten
        have HIN4 := hide (hin3.same o4)
        have HBP4 := hide (((unhide HBP).same o3).same o4)
        have HZ4 := hide (((unhide HZ2).same o3).same o4)
        have O4 := hide (((unhide O2).trans o3 (fun _ _ e => e)).trans o4 (fun _ _ e => e))
        have hk4 : k2 < k4 := by have h1 := ((unhide HZ2).same o3).lt; omega
        have HAPM := hide (hin3.apart (k := k4) (by omega))
        have HT4 := hide ht4
        have HE4 := hide e4
        have HEK4 := hide ek4
        unfold val
        obtain ⟨M, hM⟩ : ∃ M, M = cells (dput { o with state := whenD o, mat := [] } 5 (true, now)) (.slice none 0 0) nw lw cw := ⟨_, rfl⟩
        have HBM := hide hb4
        rw [← hM] at HT4 HE4 HONE4 HSZ4 ⊢
        clear hM hin3 o3 o4 hb4 e4 ek4 ht4 HMK rp2 HS2 HBP HZ2 O2 cf4
        go_upto_region 10 with (refine wpList_store_mid rfl 32 (.tmp 9) (.tmp 35) rfl y3.heap.size 0 M.toArray rfl rfl (unhide HT4) (unhide HSZ4) (unhide HONE4) ?_)
        rw [zo_eq, ← unhide HE4, ← unhide HEK4]
        clear HE4 HEK4 HT4 HONE4 HSZ4
        have cn := (unhide HBP4).cell 41 (.int .i64 now) (pcells_tail o mw nw lw cw r msg oc now (unhide HD) 4)
        have HON := hide (on_any now y4)
        go_wp2_with fail
        refine (unhide HON).mono ?_
        rintro e y5 ⟨rfl, o5⟩
        have hb5 := (unhide HBM).same o5
        have dz := get_date (dput { o with state := whenD o, mat := [] } 5 (true, now)) (.slice none 0 0) nw lw cw (unhide HTM) 9 (by decide)
        have ca := hb5.cell 25 _ dz.1
        have cb := hb5.cell 26 _ dz.2
        have fz := hb5.free
        have HB6 : Hid (Bx ((y5.setCell ⟨k4, 25, none⟩ (.bool true)).setCell ⟨k4, 26, none⟩ (.int .i64 now)) k4 32 (cells (dput (dput { o with state := whenD o, mat := [] } 5 (true, now)) 9 (true, now)) (.slice none 0 0) nw lw cw)) := by
          have h := setCells_blk [.bool true, .int .i64 now] y5 25 _ hb5
          rw [set_date (dput { o with state := whenD o, mat := [] } 5 (true, now)) (.slice none 0 0) nw lw cw (unhide HTM) 9 (by decide) true now] at h
          exact h
        have q6 : Only (fun j => j = k4) y5 ((y5.setCell ⟨k4, 25, none⟩ (.bool true)).setCell ⟨k4, 26, none⟩ (.int .i64 now)) := ((Only.refl _ _).here _ _).here _ _
        have HZ6 := hide (((unhide HZ4).same o5).only q6 (by show ¬ k2 = k4; omega))
        have O6 : Hid (Only (fun _ => False) w ((y5.setCell ⟨k4, 25, none⟩ (.bool true)).setCell ⟨k4, 26, none⟩ (.int .i64 now))) := ((unhide O4).trans o5 (fun _ _ e => e)).trans q6 (fun j hj e => by omega)
        have HIN6 := hide (((unhide HIN4).same o5).offA q6 (unhide HAPM))
        go_upto_region 11 with fail
        generalize ((y5.setCell ⟨k4, 25, none⟩ (.bool true)).setCell ⟨k4, 26, none⟩ (.int .i64 now)) = y6 at *
        clear ca cb fz cn dz o5 hb5 q6 HON HBM HBP4 HZ4 O4 HIN4
        have hI6 : In y6 (desU o now) (.slice none 0 0) nw lw cw := by
          have h := unhide HIN6
          refine ⟨h.mat, h.names, h.links, h.custom, by show (List.set _ _ _).length = 10; rw [List.length_set]; exact h.ten, h.ints, fun d hd => ?_, h.lks, h.strs⟩
          rcases List.mem_or_eq_of_mem_set hd with hd | rfl
          · exact h.dats d hd
          · exact unhide HNW
        have hfr6 : Fresh4 w.heap.size (.slice none 0 0) nw lw cw := fun j hj => by rcases hj with h | h; cases h; have h1 := unhide HGT j (Or.inr h); omega
        have hne2 : ∀ j, (blk (.slice none 0 0) = some j ∨ blk nw = some j ∨ blk lw = some j ∨ blk cw = some j) → ¬ j = k2 := fun j hj e => by rcases hj with h | h; cases h; have h1 := unhide HGT j (Or.inr h); omega
        obtain ⟨hth, hfb, hin7, hof⟩ := fin37 hI6 hne2 (unhide HZ6) (cs0 := Zo) rfl
        have hr6 := Bx.whole (o := desU o now) (unhide HB6) hI6.ten
        have HSB := hide (size_cells (desU o now) (.slice none 0 0) nw lw cw hI6.ten)
        have HSA := hide (size_cellsA (desU o now) (.slice none 0 0) nw lw cw hI6.ten)
        have HON7 := hide hI6.one
        have HTH := hide hth
        have HFB := hide hfb
        have HIN7 := hide hin7
        have HOF := hide hof
        have HFR7 := hide hfr6
        obtain ⟨B, hB⟩ : ∃ B, B = cells (desU o now) (.slice none 0 0) nw lw cw := ⟨_, rfl⟩
        rw [← hB] at hr6 HSB HSA HON7 HTH HFB HIN7 HOF
        have HBB := hide hB
        clear hth hfb hin7 hof hI6 hfr6 hB hne2
        go_wp2_with (first
          | (refine wpList_load_mid rfl 32 (.tmp 9) rfl k4 0 rfl B dsc hr6 hdu hdr (unhide HSB) ?_)
          | (refine wpList_store_mid rfl 32 (.tmp 4) (.tmp 41) rfl k2 0 B.toArray rfl rfl (unhide HTH) (unhide HSA) (unhide HON7) ?_))
        refine bodyPost_ret (results_st2 rfl _ _ k2 32 B.toArray rfl (unhide HFB) Tryd.rowObjM (unhide HSA)) rfl ?_
        refine ⟨(.slice none 0 0), nw, lw, cw, ?_, by rw [unhide HTOLD]; exact unhide HIN7, unhide HFR7, (unhide O6).trans (T := fun j => j = k2) (unhide HOF) (fun j hj e => by omega)⟩
        rw [unhide HTOLD, unhide HE0, unhide HBB]
        rfl
set_option maxRecDepth 100000 in
set_option maxHeartbeats 8000000 in
theorem answer3_any (o : Ob) (mv nv lv cv : Value) (r : Int) (msg : List UInt8) (oc : Bool × Int) (now : Int) (w : World) (I : In w o mv nv lv cv) (S : Small o) (hn : W64 now) :
    Calls Tryd.prog 26 #[.agg (pcells o mv nv lv cv r msg oc now).toArray, .int .i64 3] w fun e w' => Ans w w' e (told (arcE o) (arcU o now)) (arcE o) := by
  have hd := I.ten
  obtain ⟨w1, k1, e1, ek1, hb1, o1, hs1⟩ := boxed w (pcells o mv nv lv cv r msg oc now).toArray 56
  obtain ⟨w2, k2, e2, ek2, hb2, o2, hs2⟩ := boxed w1 Zo.toArray 32
  rw [List.toList_toArray] at hb1
  have OW := hide (o1.trans o2 (fun _ _ e => e))
  have HB := hide (hb1.same o2)
  have HZ : Hid (Bx w2 k2 32 Zo) := hb2
  have hk1 : w.heap.size ≤ k1 := by omega
  have hk2 : k1 < k2 := by omega
  have hk2s : k2 < w2.heap.size := by omega
  have HI := hide I
  have HSM := hide S
  have HNW := hide hn
  have HD := hide hd
  have HE1 := hide e1
  have HEK1 := hide ek1
  have HE2 := hide e2
  have HK12 : Hid (k1 + 1 = k2) := by show _ = _; omega
  have HCL := hide (calls_any w2)
  obtain ⟨dsc, hdu, hdr⟩ := row_desc Tryd.rowObj
  obtain ⟨dsp, hpu, hpr⟩ := row_desc Tryd.rowPlea
  obtain ⟨A, hA⟩ : ∃ A, A = pcells o mv nv lv cv r msg oc now := ⟨_, rfl⟩
  have HA := hide hA
  rw [← hA] at HE1 ⊢
  clear hA hb1 hb2 o1 o2 hs1 hs2 e1 ek1 e2 ek2 hd I S hn
  go_enter Tryd.func26, Tryd.ntmps26
  go_upto_region 1 with fail
  rw [zo_eq, ← unhide HE1, ← unhide HEK1, ← unhide HE2, unhide HK12]
  clear HE1 HEK1 HE2
  go_wp2_with fail
  refine (unhide HCL).mono ?_
  rintro e w3 ⟨b0, b1, b2, b3, b4, rfl, d0, d1, d2, d3, d4, o3⟩
  have hix : ∀ W, (Instr.index 79 (.agg (callsV b0 b1 b2 b3 b4).toArray) (.int .i64 3)).run Tryd.prog W = .ok (.agg #[.slice (some ⟨b3, 0, none⟩) 1 1, .func (.func 50) #[] #[]]) W := fun W => by kernel_rfl
  have HDQ : Hid (Bx w3 b3 83 cond3) := d3
  have HB3 := hide ((unhide HB).same o3)
  have HZ3 := hide ((unhide HZ).same o3)
  have O3 := hide ((unhide OW).trans o3 (fun _ _ e => e))
  have hk23 : k2 < w3.heap.size := by have := o3.size; omega
  clear d0 d1 d2 d3 d4 o3 HB HZ OW HCL
  obtain ⟨w4, k3, e4, ek3, hb4, o4, hs4⟩ := boxed w3 #[.slice none 0 0, .nilFunc] 78
  have hone4 : (#[Value.slice (some ⟨b3, 0, none⟩) 1 1, .func (.func 50) #[] #[]] : Array Value).all (·.oneCell') = true := all_oneCell_toArray (cs := [Value.slice (some ⟨b3, 0, none⟩) 1 1, .func (.func 50) #[] #[]]) (by intro u hu; simp only [List.mem_cons, List.not_mem_nil, or_false] at hu; rcases hu with rfl | rfl <;> rfl)
  have HTH4 : Hid (w4.there k3 0 (#[Value.slice (some ⟨b3, 0, none⟩) 1 1, .func (.func 50) #[] #[]] : Array Value).size) := bx_there hb4 _ rfl
  have HONE4 := hide hone4
  have HE4 := hide e4
  have HEK3 := hide ek3
  have hk3 : w3.heap.size ≤ k3 := by omega
  have hbq : b3 < w3.heap.size := (unhide HDQ).lt
  have q5 : Only (fun j => j = k3) w3 (w4.setCells k3 0 [Value.slice (some ⟨b3, 0, none⟩) 1 1, .func (.func 50) #[] #[]]) := (o4.mono (T := fun j => j = k3) (fun _ _ e => e.elim)).trans (Only.setCells (S := fun j => j = k3) (fun _ => rfl) _ _ _ (Only.refl _ _)) (fun _ _ e => e)
  have hb5 := setCells_bx hb4 [Value.slice (some ⟨b3, 0, none⟩) 1 1, .func (.func 50) #[] #[]] rfl
  go_upto_region 2 with (first
    | (rw [← unhide HE4, ← unhide HEK3]; refine wpList_store_mid rfl 78 (.tmp 6) (.tmp 12) rfl k3 0 #[.slice (some ⟨b3, 0, none⟩) 1 1, .func (.func 50) #[] #[]] rfl rfl (unhide HTH4) Tryd.sizeCall2 (unhide HONE4) ?_))
  try simp only [List.toList_toArray]
  generalize (w4.setCells k3 0 [Value.slice (some ⟨b3, 0, none⟩) 1 1, .func (.func 50) #[] #[]]) = w5 at *
  have HBC := hide hb5
  have HDQ5 := hide ((unhide HDQ).only q5 (by show ¬ b3 = k3; omega))
  have HB5 := hide ((unhide HB3).only q5 (by show ¬ k1 = k3; omega))
  have HZ5 := hide ((unhide HZ3).only q5 (by show ¬ k2 = k3; omega))
  have O5 : Hid (Only (fun _ => False) w w5) := (unhide O3).trans q5 (fun j hj e => by omega)
  have hk35 : k3 < w5.heap.size := hb5.lt
  clear hb4 o4 hs4 hone4 HTH4 HONE4 HE4 HEK3 e4 ek3 q5 hb5 HDQ HB3 HZ3 O3 hix
  have c30 := (unhide HBC).cell 0 _ rfl
  go_wp2
  go_loopw [16] (fun i wr => ∃ k : Nat, k ≤ 1 ∧ i = .int .i64 k ∧ Hid (Only (fun _ => False) w5 wr) ∧ Hid (0 < k → (o.arch) = false)) (fun i _ => 1 - (intOf i).toNat)
  case atStart => exact ⟨0, Nat.zero_le _, rfl, Only.refl _ _, fun h => absurd h (by omega)⟩
  case round =>
    rename World => wr
    obtain ⟨k, hk, rfl, OR, G0⟩ := hrel
    have hkc : k = 0 ∨ k = 1 := by omega
    have HCR := hide ((unhide HDQ5).same (unhide OR))
    have HBR := hide ((unhide HB5).same (unhide OR))
    have HZR := hide ((unhide HZ5).same (unhide OR))
    have OWR := hide ((unhide O5).trans (unhide OR) (fun _ _ e => e))
    clear c30
    rcases hkc with rfl | rfl
    · as_aux_lemma =>
        obtain ⟨x1, kc, f1, g1, dc, qc, sc⟩ := boxed wr #[.int .i64 0, .nilFunc] 83
        have honec : (#[Value.int .i64 13, .func (.func 42) #[] #[]] : Array Value).all (·.oneCell') = true := all_oneCell_toArray (cs := [Value.int .i64 13, .func (.func 42) #[] #[]]) (by intro u hu; simp only [List.mem_cons, List.not_mem_nil, or_false] at hu; rcases hu with rfl | rfl <;> rfl)
        have HTC : Hid (x1.there kc 0 (#[Value.int .i64 13, .func (.func 42) #[] #[]] : Array Value).size) := bx_there dc _ rfl
        have HOC := hide honec
        have HF1 := hide f1
        have HG1 := hide g1
        have hdc := setCells_bx dc [Value.int .i64 13, .func (.func 42) #[] #[]] rfl
        have qx : Only (fun j => j = kc) wr (x1.setCells kc 0 [Value.int .i64 13, .func (.func 42) #[] #[]]) := (qc.mono (T := fun j => j = kc) (fun _ _ e => e.elim)).trans (Only.setCells (S := fun j => j = kc) (fun _ => rfl) _ _ _ (Only.refl _ _)) (fun _ _ e => e)
        have hkc : wr.heap.size ≤ kc := by omega
        have qxf := qx.mono (T := fun _ => False) (fun j hj e => by omega)
        have rc := (unhide HCR).range 0 2
        obtain ⟨dsk, hku, hkr⟩ := row_desc Tryd.rowCond
        clear dc qc sc honec f1 g1 qx
        go_upto_region 5 with (first
          | (refine wpList_load_mid rfl 83 (.tmp 18) rfl b3 0 rfl [Value.int .i64 13, .func (.func 42) #[] #[]] dsk rc hku hkr Tryd.sizeCond ?_)
          | (rw [← unhide HF1, ← unhide HG1]; refine wpList_store_mid rfl 83 (.tmp 8) (.tmp 19) rfl kc 0 #[.int .i64 13, .func (.func 42) #[] #[]] rfl rfl (unhide HTC) Tryd.sizeCond (unhide HOC) ?_))
        try simp only [List.toList_toArray]
        generalize (x1.setCells kc 0 [Value.int .i64 13, .func (.func 42) #[] #[]]) = x2 at *
        clear HF1 HG1 HTC HOC rc
        have HKC := hide hdc
        have HBX := hide ((unhide HBR).same qxf)
        have HZX := hide ((unhide HZR).same qxf)
        have OX := hide ((unhide OWR).trans qxf (fun _ _ e => e))
        have ORX := hide ((unhide OR).trans qxf (fun _ _ e => e))
        have cf := (unhide HKC).cell 1 _ rfl
        have rp := prange42 o mv nv lv cv r msg oc now (unhide HD) (unhide HBX)
        have HS42 := hide (size42 o mv nv lv cv r msg oc now (unhide HD))
        have HCD := hide (isArchived_any o mv nv lv cv r msg oc now x2 (unhide HD))
        rw [← unhide HA] at rp HS42 HCD
        clear hdc qxf
        go_wp2_with (refine wpList_load_mid rfl 56 (.tmp 2) rfl k1 0 rfl A dsp rp hpu hpr (unhide HS42) ?_)
        refine (unhide HCD).mono ?_
        rintro e x3 ⟨rfl, o3⟩
        have HK3 := hide ((unhide HKC).same o3)
        have HZ3 := hide ((unhide HZX).same o3)
        have O3 := hide ((unhide OX).trans o3 (fun _ _ e => e))
        have OR3 := hide ((unhide ORX).trans o3 (fun _ _ e => e))
        clear o3 cf rp HKC HZX OX ORX HBX HCD HS42
        cases hc : (o.arch) with
        | false =>
          have HCF : Hid ((o.arch) = false) := hc
          clear hc
          go_wp2
          go_roundw
          case rel => exact ⟨1, by omega, by go_num, unhide OR3, fun _ => unhide HCF⟩
          case measure => simp [intOf]
        | true =>
          have HCT : Hid ((o.arch) = true) := hc
          clear hc
          have HRE : Hid ((arcE o) = 13) := by show _ = _; unfold arcE; rw [unhide HCT]; rfl
          have cr := (unhide HK3).cell 0 _ rfl
          have hthz : x3.there k2 0 Zo.toArray.size := bx_there (unhide HZ3) _ (by rw [List.size_toArray])
          have HFBZ : Hid (Bx (x3.setCells k2 0 Zo) k2 32 Zo) := setCells_bx (unhide HZ3) Zo rfl
          have OFZ : Hid (Only (fun _ => False) w (x3.setCells k2 0 Zo)) := Only.setCells (fun h => absurd h (by omega)) _ _ _ (unhide O3)
          go_upto_region 6 with fail
          have HTHD : Hid (x3.drew.there k2 0 Zo.toArray.size) := bx_there (b := k2) (t := 32) (cs := Zo) ((unhide HZ3).same ((Only.refl _ _).drew)) _ (by rw [List.size_toArray])
          have CR := hide cr
          have Q := hide ((Only.refl (fun j => j = k2) x3).drew)
          have hkck : ¬ kc = k2 := by have := (unhide HZR).lt; omega
          refine wp_region_held_drew (S := (fun w' => Only (fun j => j = k2) x3 w')) (by kernel_rfl) ((Only.refl _ _).drew) (fun hHeld => ?_)
          refine wpAnyH_take (i := 0) (v := ?v17) rfl (by kernel_rfl) (by kernel_rfl) (by kernel_rfl) (fun _ _ _ h => h) (Or.inl ⟨by rfl, ?hy17⟩) (by assumption) ?rest17
          case hy17 =>
            intro w hSw
            go_simp
            try with_reducible rfl
          try simp only [Act.put, List.setIfInBounds_toArray, List.set_cons_zero, List.set_cons_succ, List.getElem_toArray, List.getElem_cons_succ, List.getElem_cons_zero]
          rw [zo_eq]
          refine wpAnyH_take (i := 1) (v := ?v18) rfl (by kernel_rfl) (by kernel_rfl) (by kernel_rfl) (fun _ _ _ h => h) (Or.inl ⟨by rfl, ?hy18⟩) (by assumption) ?rest18
          case hy18 =>
            intro w hSw
            go_simp
            try with_reducible rfl
          try simp only [Act.put, List.setIfInBounds_toArray, List.set_cons_zero, List.set_cons_succ, List.getElem_toArray, List.getElem_cons_succ, List.getElem_cons_zero]
          refine wpAnyH_take (i := 2) (v := ?v19) rfl (by kernel_rfl) (by kernel_rfl) (by kernel_rfl) (fun _ _ _ h => h) (Or.inl ⟨by rfl, ?hy19⟩) (by assumption) ?rest19
          case hy19 =>
            intro w hSw
            (have q := hSw.cell (unhide CR) hkck; go_simp; try with_reducible rfl)
          try simp only [Act.put, List.setIfInBounds_toArray, List.set_cons_zero, List.set_cons_succ, List.getElem_toArray, List.getElem_cons_succ, List.getElem_cons_zero]
          refine wpAnyH_ready (rs := [3]) (by kernel_rfl) (by simp) ?_
          refine AllReadyH.cons rfl (fun K hK => ?_) AllReadyH.nil
          refine step_store_midA rfl 32 (.tmp 4) (.tmp 24) rfl k2 0 Zo.toArray rfl rfl (unhide HTHD) Tryd.sizeObj zo_one ?_
          refine hK.out _ _ ((Only.setCells (S := fun j => j = k2) (fun _ => rfl) _ _ _ (unhide Q))) (fun hHeld => ?_)
          clear hK K
          try simp only [Act.put, List.setIfInBounds_toArray, List.set_cons_zero, List.set_cons_succ, List.getElem_toArray, List.getElem_cons_succ, List.getElem_cons_zero]
          refine wpAnyH_take (i := 4) (v := ?v20) rfl (by kernel_rfl) (by kernel_rfl) (by kernel_rfl) (fun _ _ _ h => h) (Or.inl ⟨by rfl, ?hy20⟩) (by assumption) ?rest20
          case hy20 =>
            intro w hSw
            go_simp
            try with_reducible rfl
          try simp only [Act.put, List.setIfInBounds_toArray, List.set_cons_zero, List.set_cons_succ, List.getElem_toArray, List.getElem_cons_succ, List.getElem_cons_zero]
          refine wpAnyH_done (by kernel_rfl) ?_ _
          go_wp2
          have HFBD : Hid (Bx (x3.drew.setCells k2 0 Zo) k2 32 Zo) := setCells_bx ((unhide HZ3).same ((Only.refl _ _).drew)) Zo rfl
          have OFD : Hid (Only (fun _ => False) w (x3.drew.setCells k2 0 Zo)) := Only.setCells (fun h => absurd h (by omega)) _ _ _ ((unhide O3).drew)
          refine bodyPost_ret (results_st2 rfl _ _ k2 32 Zo.toArray rfl (unhide HFBD) Tryd.rowObjM Tryd.sizeObj) rfl ?_
          exact ⟨.slice none 0 0, .slice none 0 0, .slice none 0 0, .slice none 0 0, by rw [unhide HRE]; rfl, by rw [unhide HRE]; exact in_zero _, fresh_none _, unhide OFD⟩
    · as_aux_lemma =>
        have HE0 : Hid (arcE o = 0) := by show _ = _; unfold arcE; rw [unhide G0 (by decide)]; rfl
        have HTOLD : Hid (told (arcE o) (arcU o now) = arcU o now) := by show _ = _; rw [unhide HE0]; rfl
        have rp := prange o mv nv lv cv r msg oc now (unhide HD) (unhide HBR)
        have hszo := size_cells o mv nv lv cv (unhide HD)
        have HCP := hide (copy_any o mv nv lv cv wr ((unhide HI).same (unhide OWR)) (unhide HSM))
        unfold val at HCP
        obtain ⟨C, hC⟩ : ∃ C, C = cells o mv nv lv cv := ⟨_, rfl⟩
        rw [← hC] at rp hszo HCP
        have cf3 := ((unhide HBC).same (unhide OR)).cell 1 _ rfl
        clear hC
        go_wp2_with (refine wpList_load_mid rfl 32 (.tmp 28) rfl k1 0 rfl C dsc rp hdu hdr hszo ?_)
        refine (unhide HCP).mono ?_
        rintro e y1 ⟨mw, nw, lw, cw, rfl, hin, hfr, o1⟩
        have hl37 := cells_len o mw nw lw cw (unhide HD)
        have hk1y : k1 < y1.heap.size := ((unhide HBR).same o1).lt
        have HTHP : Hid (y1.there k1 0 (cells o mw nw lw cw).toArray.size) := by
          intro j hj
          rw [List.size_toArray, hl37] at hj
          refine ⟨?_, ((unhide HBR).same o1).free _⟩
          rw [Nat.zero_add, ((unhide HBR).same o1).cell j _ (List.getElem?_eq_getElem (by rw [pcells_len o mv nv lv cv r msg oc now (unhide HD)]; omega))]
          rfl
        have HONEP := hide hin.one
        have HSZP := hide (size_cellsA o mw nw lw cw (unhide HD))
        have q2 : Only (fun j => j = k1) y1 (y1.setCells k1 0 (cells o mw nw lw cw)) := Only.setCells (S := fun j => j = k1) (fun _ => rfl) _ _ _ (Only.refl _ _)
        have HBP : Hid (Bx (y1.setCells k1 0 (cells o mw nw lw cw)) k1 56 (pcells o mw nw lw cw r msg oc now)) := by
          have h := setCells_blk (cells o mw nw lw cw) y1 0 _ ((unhide HBR).same o1)
          rw [setMany_eq _ _ _ (by rw [hl37, pcells_len o mv nv lv cv r msg oc now (unhide HD)]; omega), List.take_zero, List.nil_append, Nat.zero_add, hl37] at h
          rw [show (pcells o mv nv lv cv r msg oc now).drop 37 = ptail r msg oc now from by unfold pcells; rw [← cells_len o mv nv lv cv (unhide HD), List.drop_left]] at h
          exact h
        have hgt : ∀ j, (blk mw = some j ∨ blk nw = some j ∨ blk lw = some j ∨ blk cw = some j) → k3 < j := fun j hj => by have h1 := hfr j hj; have h2 := (unhide OR).size; omega
        have HIN2 := hide (hin.off q2 (fun j hj e => by have := hgt j hj; omega))
        have HZ2 := hide (((unhide HZR).same o1).only q2 (by show ¬ k2 = k1; omega))
        have O2 : Hid (Only (fun _ => False) w (y1.setCells k1 0 (cells o mw nw lw cw))) := ((unhide OWR).trans o1 (fun _ _ e => e)).trans q2 (fun j hj e => by omega)
        have cf4 := ((o1.mono (T := fun j => j = k1) (fun _ _ e => e.elim)).trans q2 (fun _ _ e => e)).cell cf3 (by show ¬ k3 = k1; omega)
        have HGT := hide hgt
        have HFR := hide hfr
        obtain ⟨D, hD⟩ : ∃ D, D = cells o mw nw lw cw := ⟨_, rfl⟩
        rw [← hD] at HTHP HONEP HSZP HBP HIN2 HZ2 O2 cf4 q2 ⊢
        clear hin hfr o1 hl37 hD rp hszo HCP cf3 hgt
        go_upto_region 9 with (refine wpList_store_mid rfl 32 (.tmp 31) (.tmp 30) rfl k1 0 D.toArray rfl rfl (unhide HTHP) (unhide HSZP) (unhide HONEP) ?_)
        try simp only [List.toList_toArray]
        generalize (y1.setCells k1 0 D) = y2 at *
        have rp2 := prange42 o mw nw lw cw r msg oc now (unhide HD) (unhide HBP)
        have HS2 := hide (size42 o mw nw lw cw r msg oc now (unhide HD))
        obtain ⟨_, _, em, _⟩ := (unhide HIN2).mat.shape
        obtain ⟨_, _, en, _⟩ := (unhide HIN2).names.shape
        obtain ⟨_, _, el, _⟩ := (unhide HIN2).links.shape
        obtain ⟨_, _, ec, _⟩ := (unhide HIN2).custom.shape
        have HMK := hide (archived_any o mw nw lw cw r msg oc now y2 (unhide HD) (by rw [em]; rfl) (by rw [en]; rfl) (by rw [el]; rfl) (by rw [ec]; rfl))
        have HIM : Hid (∀ w', Only (fun _ => False) y2 w' → In w' (dput { o with arch := true } 8 (true, now)) mw nw lw cw) := fun w' q => by have h := (unhide HIN2).same q; exact ⟨h.mat, h.names, h.links, h.custom, (by show (List.set _ _ _).length = 10; rw [List.length_set]; exact h.ten), h.ints, (fun d hd => by rcases List.mem_or_eq_of_mem_set hd with hd | rfl; exact h.dats d hd; exact unhide HNW), h.lks, h.strs⟩
        obtain ⟨P2, hP2⟩ : ∃ P, P = pcells o mw nw lw cw r msg oc now := ⟨_, rfl⟩
        rw [← hP2] at rp2 HS2 HMK
        clear em en el ec hP2 q2
        go_wp2_with (refine wpList_load_mid rfl 56 (.tmp 2) rfl k1 0 rfl P2 dsp rp2 hpu hpr (unhide HS2) ?_)
        refine (unhide HMK).mono ?_
        rintro e y3 ⟨rfl, o3⟩
        have hin3 := unhide HIM y3 o3
        obtain ⟨y4, k4, e4, ek4, hb4, o4, ht4⟩ := made37 y3 (cells (dput { o with arch := true } 8 (true, now)) mw nw lw cw) (cells_len _ _ _ _ _ hin3.ten)
        have HONE4 := hide hin3.one
        have HSZ4 := hide (size_cellsA (dput { o with arch := true } 8 (true, now)) mw nw lw cw hin3.ten)
        have HTM : Hid (((dput { o with arch := true } 8 (true, now)) : Ob).dates.length = 10) := hin3.ten
        have HIN4 := hide (hin3.same o4)
        have HBP4 := hide (((unhide HBP).same o3).same o4)
        have HZ4 := hide (((unhide HZ2).same o3).same o4)
        have O4 := hide (((unhide O2).trans o3 (fun _ _ e => e)).trans o4 (fun _ _ e => e))
        have hk4 : k2 < k4 := by have h1 := ((unhide HZ2).same o3).lt; omega
        have HAPM := hide (hin3.apart (k := k4) (by omega))
        have HT4 := hide ht4
        have HE4 := hide e4
        have HEK4 := hide ek4
        unfold val
        obtain ⟨M, hM⟩ : ∃ M, M = cells (dput { o with arch := true } 8 (true, now)) mw nw lw cw := ⟨_, rfl⟩
        have HBM := hide hb4
        rw [← hM] at HT4 HE4 HONE4 HSZ4 ⊢
        clear hM hin3 o3 o4 hb4 e4 ek4 ht4 HMK rp2 HS2 HBP HZ2 O2 cf4
        go_upto_region 10 with (refine wpList_store_mid rfl 32 (.tmp 9) (.tmp 35) rfl y3.heap.size 0 M.toArray rfl rfl (unhide HT4) (unhide HSZ4) (unhide HONE4) ?_)
        rw [zo_eq, ← unhide HE4, ← unhide HEK4]
        clear HE4 HEK4 HT4 HONE4 HSZ4
        have cn := (unhide HBP4).cell 41 (.int .i64 now) (pcells_tail o mw nw lw cw r msg oc now (unhide HD) 4)
        have HON := hide (on_any now y4)
        go_wp2_with fail
        refine (unhide HON).mono ?_
        rintro e y5 ⟨rfl, o5⟩
        have hb5 := (unhide HBM).same o5
        have dz := get_date (dput { o with arch := true } 8 (true, now)) mw nw lw cw (unhide HTM) 9 (by decide)
        have ca := hb5.cell 25 _ dz.1
        have cb := hb5.cell 26 _ dz.2
        have fz := hb5.free
        have HB6 : Hid (Bx ((y5.setCell ⟨k4, 25, none⟩ (.bool true)).setCell ⟨k4, 26, none⟩ (.int .i64 now)) k4 32 (cells (dput (dput { o with arch := true } 8 (true, now)) 9 (true, now)) mw nw lw cw)) := by
          have h := setCells_blk [.bool true, .int .i64 now] y5 25 _ hb5
          rw [set_date (dput { o with arch := true } 8 (true, now)) mw nw lw cw (unhide HTM) 9 (by decide) true now] at h
          exact h
        have q6 : Only (fun j => j = k4) y5 ((y5.setCell ⟨k4, 25, none⟩ (.bool true)).setCell ⟨k4, 26, none⟩ (.int .i64 now)) := ((Only.refl _ _).here _ _).here _ _
        have HZ6 := hide (((unhide HZ4).same o5).only q6 (by show ¬ k2 = k4; omega))
        have O6 : Hid (Only (fun _ => False) w ((y5.setCell ⟨k4, 25, none⟩ (.bool true)).setCell ⟨k4, 26, none⟩ (.int .i64 now))) := ((unhide O4).trans o5 (fun _ _ e => e)).trans q6 (fun j hj e => by omega)
        have HIN6 := hide (((unhide HIN4).same o5).offA q6 (unhide HAPM))
        go_upto_region 11 with fail
        generalize ((y5.setCell ⟨k4, 25, none⟩ (.bool true)).setCell ⟨k4, 26, none⟩ (.int .i64 now)) = y6 at *
        clear ca cb fz cn dz o5 hb5 q6 HON HBM HBP4 HZ4 O4 HIN4
        have hI6 : In y6 (arcU o now) mw nw lw cw := by
          have h := unhide HIN6
          refine ⟨h.mat, h.names, h.links, h.custom, by show (List.set _ _ _).length = 10; rw [List.length_set]; exact h.ten, h.ints, fun d hd => ?_, h.lks, h.strs⟩
          rcases List.mem_or_eq_of_mem_set hd with hd | rfl
          · exact h.dats d hd
          · exact unhide HNW
        have hfr6 : Fresh4 w.heap.size mw nw lw cw := fun j hj => by have h1 := unhide HGT j hj; omega
        have hne2 : ∀ j, (blk mw = some j ∨ blk nw = some j ∨ blk lw = some j ∨ blk cw = some j) → ¬ j = k2 := fun j hj e => by have h1 := unhide HGT j hj; omega
        obtain ⟨hth, hfb, hin7, hof⟩ := fin37 hI6 hne2 (unhide HZ6) (cs0 := Zo) rfl
        have hr6 := Bx.whole (o := arcU o now) (unhide HB6) hI6.ten
        have HSB := hide (size_cells (arcU o now) mw nw lw cw hI6.ten)
        have HSA := hide (size_cellsA (arcU o now) mw nw lw cw hI6.ten)
        have HON7 := hide hI6.one
        have HTH := hide hth
        have HFB := hide hfb
        have HIN7 := hide hin7
        have HOF := hide hof
        have HFR7 := hide hfr6
        obtain ⟨B, hB⟩ : ∃ B, B = cells (arcU o now) mw nw lw cw := ⟨_, rfl⟩
        rw [← hB] at hr6 HSB HSA HON7 HTH HFB HIN7 HOF
        have HBB := hide hB
        clear hth hfb hin7 hof hI6 hfr6 hB hne2
        go_wp2_with (first
          | (refine wpList_load_mid rfl 32 (.tmp 9) rfl k4 0 rfl B dsc hr6 hdu hdr (unhide HSB) ?_)
          | (refine wpList_store_mid rfl 32 (.tmp 4) (.tmp 41) rfl k2 0 B.toArray rfl rfl (unhide HTH) (unhide HSA) (unhide HON7) ?_))
        refine bodyPost_ret (results_st2 rfl _ _ k2 32 B.toArray rfl (unhide HFB) Tryd.rowObjM (unhide HSA)) rfl ?_
        refine ⟨mw, nw, lw, cw, ?_, by rw [unhide HTOLD]; exact unhide HIN7, unhide HFR7, (unhide O6).trans (T := fun j => j = k2) (unhide HOF) (fun j hj e => by omega)⟩
        rw [unhide HTOLD, unhide HE0, unhide HBB]
        rfl
set_option maxRecDepth 100000 in
set_option maxHeartbeats 8000000 in
theorem answer4_any (o : Ob) (mv nv lv cv : Value) (r : Int) (msg : List UInt8) (oc : Bool × Int) (now : Int) (w : World) (I : In w o mv nv lv cv) (S : Small o) (hn : W64 now) :
    Calls Tryd.prog 26 #[.agg (pcells o mv nv lv cv r msg oc now).toArray, .int .i64 4] w fun e w' => Ans w w' e (told (recE o) (recU o now)) (recE o) := by
  have hd := I.ten
  obtain ⟨w1, k1, e1, ek1, hb1, o1, hs1⟩ := boxed w (pcells o mv nv lv cv r msg oc now).toArray 56
  obtain ⟨w2, k2, e2, ek2, hb2, o2, hs2⟩ := boxed w1 Zo.toArray 32
  rw [List.toList_toArray] at hb1
  have OW := hide (o1.trans o2 (fun _ _ e => e))
  have HB := hide (hb1.same o2)
  have HZ : Hid (Bx w2 k2 32 Zo) := hb2
  have hk1 : w.heap.size ≤ k1 := by omega
  have hk2 : k1 < k2 := by omega
  have hk2s : k2 < w2.heap.size := by omega
  have HI := hide I
  have HSM := hide S
  have HNW := hide hn
  have HD := hide hd
  have HE1 := hide e1
  have HEK1 := hide ek1
  have HE2 := hide e2
  have HK12 : Hid (k1 + 1 = k2) := by show _ = _; omega
  have HCL := hide (calls_any w2)
  obtain ⟨dsc, hdu, hdr⟩ := row_desc Tryd.rowObj
  obtain ⟨dsp, hpu, hpr⟩ := row_desc Tryd.rowPlea
  obtain ⟨A, hA⟩ : ∃ A, A = pcells o mv nv lv cv r msg oc now := ⟨_, rfl⟩
  have HA := hide hA
  rw [← hA] at HE1 ⊢
  clear hA hb1 hb2 o1 o2 hs1 hs2 e1 ek1 e2 ek2 hd I S hn
  go_enter Tryd.func26, Tryd.ntmps26
  go_upto_region 1 with fail
  rw [zo_eq, ← unhide HE1, ← unhide HEK1, ← unhide HE2, unhide HK12]
  clear HE1 HEK1 HE2
  go_wp2_with fail
  refine (unhide HCL).mono ?_
  rintro e w3 ⟨b0, b1, b2, b3, b4, rfl, d0, d1, d2, d3, d4, o3⟩
  have hix : ∀ W, (Instr.index 79 (.agg (callsV b0 b1 b2 b3 b4).toArray) (.int .i64 4)).run Tryd.prog W = .ok (.agg #[.slice (some ⟨b4, 0, none⟩) 1 1, .func (.func 52) #[] #[]]) W := fun W => by kernel_rfl
  have HDQ : Hid (Bx w3 b4 83 cond4) := d4
  have HB3 := hide ((unhide HB).same o3)
  have HZ3 := hide ((unhide HZ).same o3)
  have O3 := hide ((unhide OW).trans o3 (fun _ _ e => e))
  have hk23 : k2 < w3.heap.size := by have := o3.size; omega
  clear d0 d1 d2 d3 d4 o3 HB HZ OW HCL
  obtain ⟨w4, k3, e4, ek3, hb4, o4, hs4⟩ := boxed w3 #[.slice none 0 0, .nilFunc] 78
  have hone4 : (#[Value.slice (some ⟨b4, 0, none⟩) 1 1, .func (.func 52) #[] #[]] : Array Value).all (·.oneCell') = true := all_oneCell_toArray (cs := [Value.slice (some ⟨b4, 0, none⟩) 1 1, .func (.func 52) #[] #[]]) (by intro u hu; simp only [List.mem_cons, List.not_mem_nil, or_false] at hu; rcases hu with rfl | rfl <;> rfl)
  have HTH4 : Hid (w4.there k3 0 (#[Value.slice (some ⟨b4, 0, none⟩) 1 1, .func (.func 52) #[] #[]] : Array Value).size) := bx_there hb4 _ rfl
  have HONE4 := hide hone4
  have HE4 := hide e4
  have HEK3 := hide ek3
  have hk3 : w3.heap.size ≤ k3 := by omega
  have hbq : b4 < w3.heap.size := (unhide HDQ).lt
  have q5 : Only (fun j => j = k3) w3 (w4.setCells k3 0 [Value.slice (some ⟨b4, 0, none⟩) 1 1, .func (.func 52) #[] #[]]) := (o4.mono (T := fun j => j = k3) (fun _ _ e => e.elim)).trans (Only.setCells (S := fun j => j = k3) (fun _ => rfl) _ _ _ (Only.refl _ _)) (fun _ _ e => e)
  have hb5 := setCells_bx hb4 [Value.slice (some ⟨b4, 0, none⟩) 1 1, .func (.func 52) #[] #[]] rfl
  go_upto_region 2 with (first
    | (rw [← unhide HE4, ← unhide HEK3]; refine wpList_store_mid rfl 78 (.tmp 6) (.tmp 12) rfl k3 0 #[.slice (some ⟨b4, 0, none⟩) 1 1, .func (.func 52) #[] #[]] rfl rfl (unhide HTH4) Tryd.sizeCall2 (unhide HONE4) ?_))
  try simp only [List.toList_toArray]
  generalize (w4.setCells k3 0 [Value.slice (some ⟨b4, 0, none⟩) 1 1, .func (.func 52) #[] #[]]) = w5 at *
  have HBC := hide hb5
  have HDQ5 := hide ((unhide HDQ).only q5 (by show ¬ b4 = k3; omega))
  have HB5 := hide ((unhide HB3).only q5 (by show ¬ k1 = k3; omega))
  have HZ5 := hide ((unhide HZ3).only q5 (by show ¬ k2 = k3; omega))
  have O5 : Hid (Only (fun _ => False) w w5) := (unhide O3).trans q5 (fun j hj e => by omega)
  have hk35 : k3 < w5.heap.size := hb5.lt
  clear hb4 o4 hs4 hone4 HTH4 HONE4 HE4 HEK3 e4 ek3 q5 hb5 HDQ HB3 HZ3 O3 hix
  have c30 := (unhide HBC).cell 0 _ rfl
  go_wp2
  go_loopw [16] (fun i wr => ∃ k : Nat, k ≤ 1 ∧ i = .int .i64 k ∧ Hid (Only (fun _ => False) w5 wr) ∧ Hid (0 < k → (!o.arch) = false)) (fun i _ => 1 - (intOf i).toNat)
  case atStart => exact ⟨0, Nat.zero_le _, rfl, Only.refl _ _, fun h => absurd h (by omega)⟩
  case round =>
    rename World => wr
    obtain ⟨k, hk, rfl, OR, G0⟩ := hrel
    have hkc : k = 0 ∨ k = 1 := by omega
    have HCR := hide ((unhide HDQ5).same (unhide OR))
    have HBR := hide ((unhide HB5).same (unhide OR))
    have HZR := hide ((unhide HZ5).same (unhide OR))
    have OWR := hide ((unhide O5).trans (unhide OR) (fun _ _ e => e))
    clear c30
    rcases hkc with rfl | rfl
    · as_aux_lemma =>
        obtain ⟨x1, kc, f1, g1, dc, qc, sc⟩ := boxed wr #[.int .i64 0, .nilFunc] 83
        have honec : (#[Value.int .i64 11, .func (.func 51) #[] #[]] : Array Value).all (·.oneCell') = true := all_oneCell_toArray (cs := [Value.int .i64 11, .func (.func 51) #[] #[]]) (by intro u hu; simp only [List.mem_cons, List.not_mem_nil, or_false] at hu; rcases hu with rfl | rfl <;> rfl)
        have HTC : Hid (x1.there kc 0 (#[Value.int .i64 11, .func (.func 51) #[] #[]] : Array Value).size) := bx_there dc _ rfl
        have HOC := hide honec
        have HF1 := hide f1
        have HG1 := hide g1
        have hdc := setCells_bx dc [Value.int .i64 11, .func (.func 51) #[] #[]] rfl
        have qx : Only (fun j => j = kc) wr (x1.setCells kc 0 [Value.int .i64 11, .func (.func 51) #[] #[]]) := (qc.mono (T := fun j => j = kc) (fun _ _ e => e.elim)).trans (Only.setCells (S := fun j => j = kc) (fun _ => rfl) _ _ _ (Only.refl _ _)) (fun _ _ e => e)
        have hkc : wr.heap.size ≤ kc := by omega
        have qxf := qx.mono (T := fun _ => False) (fun j hj e => by omega)
        have rc := (unhide HCR).range 0 2
        obtain ⟨dsk, hku, hkr⟩ := row_desc Tryd.rowCond
        clear dc qc sc honec f1 g1 qx
        go_upto_region 5 with (first
          | (refine wpList_load_mid rfl 83 (.tmp 18) rfl b4 0 rfl [Value.int .i64 11, .func (.func 51) #[] #[]] dsk rc hku hkr Tryd.sizeCond ?_)
          | (rw [← unhide HF1, ← unhide HG1]; refine wpList_store_mid rfl 83 (.tmp 8) (.tmp 19) rfl kc 0 #[.int .i64 11, .func (.func 51) #[] #[]] rfl rfl (unhide HTC) Tryd.sizeCond (unhide HOC) ?_))
        try simp only [List.toList_toArray]
        generalize (x1.setCells kc 0 [Value.int .i64 11, .func (.func 51) #[] #[]]) = x2 at *
        clear HF1 HG1 HTC HOC rc
        have HKC := hide hdc
        have HBX := hide ((unhide HBR).same qxf)
        have HZX := hide ((unhide HZR).same qxf)
        have OX := hide ((unhide OWR).trans qxf (fun _ _ e => e))
        have ORX := hide ((unhide OR).trans qxf (fun _ _ e => e))
        have cf := (unhide HKC).cell 1 _ rfl
        have rp := prange42 o mv nv lv cv r msg oc now (unhide HD) (unhide HBX)
        have HS42 := hide (size42 o mv nv lv cv r msg oc now (unhide HD))
        have HCD := hide (isNotArchived_any o mv nv lv cv r msg oc now x2 (unhide HD))
        rw [← unhide HA] at rp HS42 HCD
        clear hdc qxf
        go_wp2_with (refine wpList_load_mid rfl 56 (.tmp 2) rfl k1 0 rfl A dsp rp hpu hpr (unhide HS42) ?_)
        refine (unhide HCD).mono ?_
        rintro e x3 ⟨rfl, o3⟩
        have HK3 := hide ((unhide HKC).same o3)
        have HZ3 := hide ((unhide HZX).same o3)
        have O3 := hide ((unhide OX).trans o3 (fun _ _ e => e))
        have OR3 := hide ((unhide ORX).trans o3 (fun _ _ e => e))
        clear o3 cf rp HKC HZX OX ORX HBX HCD HS42
        cases hc : (!o.arch) with
        | false =>
          have HCF : Hid ((!o.arch) = false) := hc
          clear hc
          go_wp2
          go_roundw
          case rel => exact ⟨1, by omega, by go_num, unhide OR3, fun _ => unhide HCF⟩
          case measure => simp [intOf]
        | true =>
          have HCT : Hid ((!o.arch) = true) := hc
          clear hc
          have HRE : Hid ((recE o) = 11) := by show _ = _; unfold recE; rw [if_neg (by have := unhide HCT; simpa using this)]
          have cr := (unhide HK3).cell 0 _ rfl
          have hthz : x3.there k2 0 Zo.toArray.size := bx_there (unhide HZ3) _ (by rw [List.size_toArray])
          have HFBZ : Hid (Bx (x3.setCells k2 0 Zo) k2 32 Zo) := setCells_bx (unhide HZ3) Zo rfl
          have OFZ : Hid (Only (fun _ => False) w (x3.setCells k2 0 Zo)) := Only.setCells (fun h => absurd h (by omega)) _ _ _ (unhide O3)
          go_upto_region 6 with fail
          have HTHD : Hid (x3.drew.there k2 0 Zo.toArray.size) := bx_there (b := k2) (t := 32) (cs := Zo) ((unhide HZ3).same ((Only.refl _ _).drew)) _ (by rw [List.size_toArray])
          have CR := hide cr
          have Q := hide ((Only.refl (fun j => j = k2) x3).drew)
          have hkck : ¬ kc = k2 := by have := (unhide HZR).lt; omega
          refine wp_region_held_drew (S := (fun w' => Only (fun j => j = k2) x3 w')) (by kernel_rfl) ((Only.refl _ _).drew) (fun hHeld => ?_)
          refine wpAnyH_take (i := 0) (v := ?v21) rfl (by kernel_rfl) (by kernel_rfl) (by kernel_rfl) (fun _ _ _ h => h) (Or.inl ⟨by rfl, ?hy21⟩) (by assumption) ?rest21
          case hy21 =>
            intro w hSw
            go_simp
            try with_reducible rfl
          try simp only [Act.put, List.setIfInBounds_toArray, List.set_cons_zero, List.set_cons_succ, List.getElem_toArray, List.getElem_cons_succ, List.getElem_cons_zero]
          rw [zo_eq]
          refine wpAnyH_take (i := 1) (v := ?v22) rfl (by kernel_rfl) (by kernel_rfl) (by kernel_rfl) (fun _ _ _ h => h) (Or.inl ⟨by rfl, ?hy22⟩) (by assumption) ?rest22
          case hy22 =>
            intro w hSw
            go_simp
            try with_reducible rfl
          try simp only [Act.put, List.setIfInBounds_toArray, List.set_cons_zero, List.set_cons_succ, List.getElem_toArray, List.getElem_cons_succ, List.getElem_cons_zero]
          refine wpAnyH_take (i := 2) (v := ?v23) rfl (by kernel_rfl) (by kernel_rfl) (by kernel_rfl) (fun _ _ _ h => h) (Or.inl ⟨by rfl, ?hy23⟩) (by assumption) ?rest23
          case hy23 =>
            intro w hSw
            (have q := hSw.cell (unhide CR) hkck; go_simp; try with_reducible rfl)
          try simp only [Act.put, List.setIfInBounds_toArray, List.set_cons_zero, List.set_cons_succ, List.getElem_toArray, List.getElem_cons_succ, List.getElem_cons_zero]
          refine wpAnyH_ready (rs := [3]) (by kernel_rfl) (by simp) ?_
          refine AllReadyH.cons rfl (fun K hK => ?_) AllReadyH.nil
          refine step_store_midA rfl 32 (.tmp 4) (.tmp 24) rfl k2 0 Zo.toArray rfl rfl (unhide HTHD) Tryd.sizeObj zo_one ?_
          refine hK.out _ _ ((Only.setCells (S := fun j => j = k2) (fun _ => rfl) _ _ _ (unhide Q))) (fun hHeld => ?_)
          clear hK K
          try simp only [Act.put, List.setIfInBounds_toArray, List.set_cons_zero, List.set_cons_succ, List.getElem_toArray, List.getElem_cons_succ, List.getElem_cons_zero]
          refine wpAnyH_take (i := 4) (v := ?v24) rfl (by kernel_rfl) (by kernel_rfl) (by kernel_rfl) (fun _ _ _ h => h) (Or.inl ⟨by rfl, ?hy24⟩) (by assumption) ?rest24
          case hy24 =>
            intro w hSw
            go_simp
            try with_reducible rfl
          try simp only [Act.put, List.setIfInBounds_toArray, List.set_cons_zero, List.set_cons_succ, List.getElem_toArray, List.getElem_cons_succ, List.getElem_cons_zero]
          refine wpAnyH_done (by kernel_rfl) ?_ _
          go_wp2
          have HFBD : Hid (Bx (x3.drew.setCells k2 0 Zo) k2 32 Zo) := setCells_bx ((unhide HZ3).same ((Only.refl _ _).drew)) Zo rfl
          have OFD : Hid (Only (fun _ => False) w (x3.drew.setCells k2 0 Zo)) := Only.setCells (fun h => absurd h (by omega)) _ _ _ ((unhide O3).drew)
          refine bodyPost_ret (results_st2 rfl _ _ k2 32 Zo.toArray rfl (unhide HFBD) Tryd.rowObjM Tryd.sizeObj) rfl ?_
          exact ⟨.slice none 0 0, .slice none 0 0, .slice none 0 0, .slice none 0 0, by rw [unhide HRE]; rfl, by rw [unhide HRE]; exact in_zero _, fresh_none _, unhide OFD⟩
    · as_aux_lemma =>
        have HE0 : Hid (recE o = 0) := by show _ = _; unfold recE; rw [if_pos (by have := unhide G0 (by decide); simpa using this)]
        have HTOLD : Hid (told (recE o) (recU o now) = recU o now) := by show _ = _; rw [unhide HE0]; rfl
        have rp := prange o mv nv lv cv r msg oc now (unhide HD) (unhide HBR)
        have hszo := size_cells o mv nv lv cv (unhide HD)
        have HCP := hide (copy_any o mv nv lv cv wr ((unhide HI).same (unhide OWR)) (unhide HSM))
        unfold val at HCP
        obtain ⟨C, hC⟩ : ∃ C, C = cells o mv nv lv cv := ⟨_, rfl⟩
        rw [← hC] at rp hszo HCP
        have cf3 := ((unhide HBC).same (unhide OR)).cell 1 _ rfl
        clear hC
        go_wp2_with (refine wpList_load_mid rfl 32 (.tmp 28) rfl k1 0 rfl C dsc rp hdu hdr hszo ?_)
        refine (unhide HCP).mono ?_
        rintro e y1 ⟨mw, nw, lw, cw, rfl, hin, hfr, o1⟩
        have hl37 := cells_len o mw nw lw cw (unhide HD)
        have hk1y : k1 < y1.heap.size := ((unhide HBR).same o1).lt
        have HTHP : Hid (y1.there k1 0 (cells o mw nw lw cw).toArray.size) := by
          intro j hj
          rw [List.size_toArray, hl37] at hj
          refine ⟨?_, ((unhide HBR).same o1).free _⟩
          rw [Nat.zero_add, ((unhide HBR).same o1).cell j _ (List.getElem?_eq_getElem (by rw [pcells_len o mv nv lv cv r msg oc now (unhide HD)]; omega))]
          rfl
        have HONEP := hide hin.one
        have HSZP := hide (size_cellsA o mw nw lw cw (unhide HD))
        have q2 : Only (fun j => j = k1) y1 (y1.setCells k1 0 (cells o mw nw lw cw)) := Only.setCells (S := fun j => j = k1) (fun _ => rfl) _ _ _ (Only.refl _ _)
        have HBP : Hid (Bx (y1.setCells k1 0 (cells o mw nw lw cw)) k1 56 (pcells o mw nw lw cw r msg oc now)) := by
          have h := setCells_blk (cells o mw nw lw cw) y1 0 _ ((unhide HBR).same o1)
          rw [setMany_eq _ _ _ (by rw [hl37, pcells_len o mv nv lv cv r msg oc now (unhide HD)]; omega), List.take_zero, List.nil_append, Nat.zero_add, hl37] at h
          rw [show (pcells o mv nv lv cv r msg oc now).drop 37 = ptail r msg oc now from by unfold pcells; rw [← cells_len o mv nv lv cv (unhide HD), List.drop_left]] at h
          exact h
        have hgt : ∀ j, (blk mw = some j ∨ blk nw = some j ∨ blk lw = some j ∨ blk cw = some j) → k3 < j := fun j hj => by have h1 := hfr j hj; have h2 := (unhide OR).size; omega
        have HIN2 := hide (hin.off q2 (fun j hj e => by have := hgt j hj; omega))
        have HZ2 := hide (((unhide HZR).same o1).only q2 (by show ¬ k2 = k1; omega))
        have O2 : Hid (Only (fun _ => False) w (y1.setCells k1 0 (cells o mw nw lw cw))) := ((unhide OWR).trans o1 (fun _ _ e => e)).trans q2 (fun j hj e => by omega)
        have cf4 := ((o1.mono (T := fun j => j = k1) (fun _ _ e => e.elim)).trans q2 (fun _ _ e => e)).cell cf3 (by show ¬ k3 = k1; omega)
        have HGT := hide hgt
        have HFR := hide hfr
        obtain ⟨D, hD⟩ : ∃ D, D = cells o mw nw lw cw := ⟨_, rfl⟩
        rw [← hD] at HTHP HONEP HSZP HBP HIN2 HZ2 O2 cf4 q2 ⊢
        clear hin hfr o1 hl37 hD rp hszo HCP cf3 hgt
        go_upto_region 9 with (refine wpList_store_mid rfl 32 (.tmp 31) (.tmp 30) rfl k1 0 D.toArray rfl rfl (unhide HTHP) (unhide HSZP) (unhide HONEP) ?_)
        try simp only [List.toList_toArray]
        generalize (y1.setCells k1 0 D) = y2 at *
        have rp2 := prange42 o mw nw lw cw r msg oc now (unhide HD) (unhide HBP)
        have HS2 := hide (size42 o mw nw lw cw r msg oc now (unhide HD))
        obtain ⟨_, _, em, _⟩ := (unhide HIN2).mat.shape
        obtain ⟨_, _, en, _⟩ := (unhide HIN2).names.shape
        obtain ⟨_, _, el, _⟩ := (unhide HIN2).links.shape
        obtain ⟨_, _, ec, _⟩ := (unhide HIN2).custom.shape
        have HMK := hide (recovered_any o mw nw lw cw r msg oc now y2 (unhide HD) (by rw [em]; rfl) (by rw [en]; rfl) (by rw [el]; rfl) (by rw [ec]; rfl))
        have HIM : Hid (∀ w', Only (fun _ => False) y2 w' → In w' ({ o with arch := false }) mw nw lw cw) := fun w' q => (by have h := (unhide HIN2).same q; exact ⟨h.mat, h.names, h.links, h.custom, h.ten, h.ints, h.dats, h.lks, h.strs⟩)
        obtain ⟨P2, hP2⟩ : ∃ P, P = pcells o mw nw lw cw r msg oc now := ⟨_, rfl⟩
        rw [← hP2] at rp2 HS2 HMK
        clear em en el ec hP2 q2
        go_wp2_with (refine wpList_load_mid rfl 56 (.tmp 2) rfl k1 0 rfl P2 dsp rp2 hpu hpr (unhide HS2) ?_)
        refine (unhide HMK).mono ?_
        rintro e y3 ⟨rfl, o3⟩
        have hin3 := unhide HIM y3 o3
        obtain ⟨y4, k4, e4, ek4, hb4, o4, ht4⟩ := made37 y3 (cells ({ o with arch := false }) mw nw lw cw) (cells_len _ _ _ _ _ hin3.ten)
        have HONE4 := hide hin3.one
        have HSZ4 := hide (size_cellsA ({ o with arch := false }) mw nw lw cw hin3.ten)
        have HTM : Hid ((({ o with arch := false }) : Ob).dates.length = 10) := hin3.ten
        have HIN4 := hide (hin3.same o4)
        have HBP4 := hide (((unhide HBP).same o3).same o4)
        have HZ4 := hide (((unhide HZ2).same o3).same o4)
        have O4 := hide (((unhide O2).trans o3 (fun _ _ e => e)).trans o4 (fun _ _ e => e))
        have hk4 : k2 < k4 := by have h1 := ((unhide HZ2).same o3).lt; omega
        have HAPM := hide (hin3.apart (k := k4) (by omega))
        have HT4 := hide ht4
        have HE4 := hide e4
        have HEK4 := hide ek4
        unfold val
        obtain ⟨M, hM⟩ : ∃ M, M = cells ({ o with arch := false }) mw nw lw cw := ⟨_, rfl⟩
        have HBM := hide hb4
        rw [← hM] at HT4 HE4 HONE4 HSZ4 ⊢
        clear hM hin3 o3 o4 hb4 e4 ek4 ht4 HMK rp2 HS2 HBP HZ2 O2 cf4
        go_upto_region 10 with (refine wpList_store_mid rfl 32 (.tmp 9) (.tmp 35) rfl y3.heap.size 0 M.toArray rfl rfl (unhide HT4) (unhide HSZ4) (unhide HONE4) ?_)
        rw [zo_eq, ← unhide HE4, ← unhide HEK4]
        clear HE4 HEK4 HT4 HONE4 HSZ4
        have cn := (unhide HBP4).cell 41 (.int .i64 now) (pcells_tail o mw nw lw cw r msg oc now (unhide HD) 4)
        have HON := hide (on_any now y4)
        go_wp2_with fail
        refine (unhide HON).mono ?_
        rintro e y5 ⟨rfl, o5⟩
        have hb5 := (unhide HBM).same o5
        have dz := get_date ({ o with arch := false }) mw nw lw cw (unhide HTM) 9 (by decide)
        have ca := hb5.cell 25 _ dz.1
        have cb := hb5.cell 26 _ dz.2
        have fz := hb5.free
        have HB6 : Hid (Bx ((y5.setCell ⟨k4, 25, none⟩ (.bool true)).setCell ⟨k4, 26, none⟩ (.int .i64 now)) k4 32 (cells (dput ({ o with arch := false }) 9 (true, now)) mw nw lw cw)) := by
          have h := setCells_blk [.bool true, .int .i64 now] y5 25 _ hb5
          rw [set_date ({ o with arch := false }) mw nw lw cw (unhide HTM) 9 (by decide) true now] at h
          exact h
        have q6 : Only (fun j => j = k4) y5 ((y5.setCell ⟨k4, 25, none⟩ (.bool true)).setCell ⟨k4, 26, none⟩ (.int .i64 now)) := ((Only.refl _ _).here _ _).here _ _
        have HZ6 := hide (((unhide HZ4).same o5).only q6 (by show ¬ k2 = k4; omega))
        have O6 : Hid (Only (fun _ => False) w ((y5.setCell ⟨k4, 25, none⟩ (.bool true)).setCell ⟨k4, 26, none⟩ (.int .i64 now))) := ((unhide O4).trans o5 (fun _ _ e => e)).trans q6 (fun j hj e => by omega)
        have HIN6 := hide (((unhide HIN4).same o5).offA q6 (unhide HAPM))
        go_upto_region 11 with fail
        generalize ((y5.setCell ⟨k4, 25, none⟩ (.bool true)).setCell ⟨k4, 26, none⟩ (.int .i64 now)) = y6 at *
        clear ca cb fz cn dz o5 hb5 q6 HON HBM HBP4 HZ4 O4 HIN4
        have hI6 : In y6 (recU o now) mw nw lw cw := by
          have h := unhide HIN6
          refine ⟨h.mat, h.names, h.links, h.custom, by show (List.set _ _ _).length = 10; rw [List.length_set]; exact h.ten, h.ints, fun d hd => ?_, h.lks, h.strs⟩
          rcases List.mem_or_eq_of_mem_set hd with hd | rfl
          · exact h.dats d hd
          · exact unhide HNW
        have hfr6 : Fresh4 w.heap.size mw nw lw cw := fun j hj => by have h1 := unhide HGT j hj; omega
        have hne2 : ∀ j, (blk mw = some j ∨ blk nw = some j ∨ blk lw = some j ∨ blk cw = some j) → ¬ j = k2 := fun j hj e => by have h1 := unhide HGT j hj; omega
        obtain ⟨hth, hfb, hin7, hof⟩ := fin37 hI6 hne2 (unhide HZ6) (cs0 := Zo) rfl
        have hr6 := Bx.whole (o := recU o now) (unhide HB6) hI6.ten
        have HSB := hide (size_cells (recU o now) mw nw lw cw hI6.ten)
        have HSA := hide (size_cellsA (recU o now) mw nw lw cw hI6.ten)
        have HON7 := hide hI6.one
        have HTH := hide hth
        have HFB := hide hfb
        have HIN7 := hide hin7
        have HOF := hide hof
        have HFR7 := hide hfr6
        obtain ⟨B, hB⟩ : ∃ B, B = cells (recU o now) mw nw lw cw := ⟨_, rfl⟩
        rw [← hB] at hr6 HSB HSA HON7 HTH HFB HIN7 HOF
        have HBB := hide hB
        clear hth hfb hin7 hof hI6 hfr6 hB hne2
        go_wp2_with (first
          | (refine wpList_load_mid rfl 32 (.tmp 9) rfl k4 0 rfl B dsc hr6 hdu hdr (unhide HSB) ?_)
          | (refine wpList_store_mid rfl 32 (.tmp 4) (.tmp 41) rfl k2 0 B.toArray rfl rfl (unhide HTH) (unhide HSA) (unhide HON7) ?_))
        refine bodyPost_ret (results_st2 rfl _ _ k2 32 B.toArray rfl (unhide HFB) Tryd.rowObjM (unhide HSA)) rfl ?_
        refine ⟨mw, nw, lw, cw, ?_, by rw [unhide HTOLD]; exact unhide HIN7, unhide HFR7, (unhide O6).trans (T := fun j => j = k2) (unhide HOF) (fun j hj e => by omega)⟩
        rw [unhide HTOLD, unhide HE0, unhide HBB]
        rfl
end Ob
end Go.Proofs.YtadpmninoghcjaaDoor
