/-
  The reference's Same, of objects that are the same.
-/
import Derived.Test.YtadpmninoghcjaaDoorLfCmp
import Derived.Test.YtadpmninoghcjaaDoorLfSpec
namespace Go.Proofs.YtadpmninoghcjaaDoor
open Go.RowKit
set_option linter.unusedSimpArgs false
set_option linter.unusedVariables false
namespace Ob

theorem Tryd.underDatesS : Tryd.prog.underlying 25 = some (.array 10 24) := by kernel_rfl
set_option maxRecDepth 100000 in
set_option maxHeartbeats 16000000 in
theorem rsame_eq (o : Ob) (mv nv lv cv mu nu lu cu : Value) (w : World) (ha : In w o mv nv lv cv) (hb : In w o mu nu lu cu) :
    Calls Tryd.prog 22 #[val o mv nv lv cv, val o mu nu lu cu] w fun e w' => e = .returned (.bool true) ∧ Only (fun _ => False) w w' := by
  have hd := ha.ten
  obtain ⟨w1, k1, e1, ek1, hb1, o1, hs1⟩ := boxed w (cells o mv nv lv cv).toArray 32
  obtain ⟨w2, k2, e2, ek2, hb2, o2, hs2⟩ := boxed w1 (cells o mu nu lu cu).toArray 32
  rw [List.toList_toArray] at hb1 hb2
  have OW := hide (o1.trans o2 (fun _ _ e => e))
  have HD := hide hd
  have IA := hide (ha.same (unhide OW))
  have IB := hide (hb.same (unhide OW))
  obtain ⟨ma, mc, emv, -⟩ := (unhide IA).mat.shape
  obtain ⟨na, nc, env, hn1, hn2⟩ := (unhide IA).names.shape
  obtain ⟨la, lc, elv, hl1, hl2⟩ := (unhide IA).links.shape
  obtain ⟨ca, cc, ecv, hc1, hc2⟩ := (unhide IA).custom.shape
  obtain ⟨mb, md, emu, -⟩ := (unhide IB).mat.shape
  obtain ⟨nb, nd, enu, -⟩ := (unhide IB).names.shape
  obtain ⟨lb, ld, elu, -⟩ := (unhide IB).links.shape
  obtain ⟨cb, cd, ecu, -⟩ := (unhide IB).custom.shape
  subst emv env elv ecv emu enu elu ecu
  have sm1 := str_conv (unhide IA).mat
  have sm2 := str_conv (unhide IB).mat
  have nz : (o.names.length : Int) < 9223372036854775808 := by unfold maxLen at hn2; omega
  have lz : (o.links.length : Int) < 9223372036854775808 := by unfold maxLen at hl2; omega
  have cz : (o.custom.length : Int) < 9223372036854775808 := by unfold maxLen at hc2; omega
  have hra := (hb1.same o2).range 7 20
  rw [cells_dates o _ _ _ _ hd] at hra
  have hrb := hb2.range 7 20
  rw [cells_dates o _ _ _ _ hd] at hrb
  have HB1 := hide (hb1.same o2)
  have HB2 := hide hb2
  have HE1 := hide e1
  have HEK1 := hide ek1
  have HE2 := hide e2
  have HEK2 : Hid (k1 + 1 = k2) := by show _ = _; omega
  unfold val
  obtain ⟨A, hA⟩ : ∃ A, A = cells o (.slice ma o.mat.length mc) (.slice na o.names.length nc) (.slice la o.links.length lc) (.slice ca o.custom.length cc) := ⟨_, rfl⟩
  obtain ⟨B, hB⟩ : ∃ B, B = cells o (.slice mb o.mat.length md) (.slice nb o.names.length nd) (.slice lb o.links.length ld) (.slice cb o.custom.length cd) := ⟨_, rfl⟩
  rw [← hA] at HE1 HB1 ⊢
  rw [← hB] at HE2 HB2 ⊢
  have HA := hide hA
  have HBB := hide hB
  clear hA hB hb1 hb2 o1 o2 hs1 hs2 e1 ek1 e2 ek2 ha hb hd hn1 hn2 hl1 hl2 hc1 hc2
  have RA := hide hra
  have RB := hide hrb
  obtain ⟨D, hD⟩ : ∃ D, D = o.dates.flatMap dcells := ⟨_, rfl⟩
  have ND := Cm.neq_dates o.dates (unhide HD)
  have NL := Cm.neq_lim o
  rw [← hD] at RA RB ND
  have hDl : D.length = 20 := by rw [hD, dcells_len, unhide HD]
  have HDS : Hid ((Tryd.prog.info? 25).map (·.size) = some D.length) := by show _ = _; rw [hDl]; exact Cm.sizeD20
  have GD : ∀ (x y : Operand) (xs ys : Array Value) (W : World), (eqGuard .neq 25 x y (.agg xs) (.agg ys)).run Tryd.prog W = .ok () W := fun x y xs ys W => run_eqGuard_agg W _ _ _ _ _ _ (by kernel_rfl)
  have GL : ∀ (x y : Operand) (xs ys : Array Value) (W : World), (eqGuard .neq 30 x y (.agg xs) (.agg ys)).run Tryd.prog W = .ok () W := fun x y xs ys W => run_eqGuard_agg W _ _ _ _ _ _ (by kernel_rfl)
  clear hra hrb hD hDl
  have a0 : A[0]? = some (.string (str o.id)) := by rw [unhide HA]; exact cells_front o _ _ _ _ 0 (by decide)
  have a1 : A[1]? = some (.int .i64 o.typ) := by rw [unhide HA]; exact cells_front o _ _ _ _ 1 (by decide)
  have a2 : A[2]? = some (.int .i64 o.alg) := by rw [unhide HA]; exact cells_front o _ _ _ _ 2 (by decide)
  have a3 : A[3]? = some (.int .i64 o.len) := by rw [unhide HA]; exact cells_front o _ _ _ _ 3 (by decide)
  have a4 : A[4]? = some (.int .i64 o.mask) := by rw [unhide HA]; exact cells_front o _ _ _ _ 4 (by decide)
  have a5 : A[5]? = some (.slice ma o.mat.length mc) := by rw [unhide HA]; exact cells_front o _ _ _ _ 5 (by decide)
  have a6 : A[6]? = some (.int .i64 o.state) := by rw [unhide HA]; exact cells_front o _ _ _ _ 6 (by decide)
  have a27 : A[27]? = some (.int .i64 o.reason) := by rw [unhide HA]; exact cells_back o _ _ _ _ (unhide HD) 0
  have a28 : A[28]? = some (.string (str o.msg)) := by rw [unhide HA]; exact cells_back o _ _ _ _ (unhide HD) 1
  have a29 : A[29]? = some (.slice na o.names.length nc) := by rw [unhide HA]; exact cells_back o _ _ _ _ (unhide HD) 2
  have a30 : A[30]? = some (.slice la o.links.length lc) := by rw [unhide HA]; exact cells_back o _ _ _ _ (unhide HD) 3
  have a31 : A[31]? = some (.slice ca o.custom.length cc) := by rw [unhide HA]; exact cells_back o _ _ _ _ (unhide HD) 4
  have a32 : A[32]? = some (.bool o.lh) := by rw [unhide HA]; exact cells_back o _ _ _ _ (unhide HD) 5
  have a33 : A[33]? = some (.int .i64 o.lt) := by rw [unhide HA]; exact cells_back o _ _ _ _ (unhide HD) 6
  have a34 : A[34]? = some (.int .i64 o.lc) := by rw [unhide HA]; exact cells_back o _ _ _ _ (unhide HD) 7
  have a35 : A[35]? = some (.int .i64 o.lu) := by rw [unhide HA]; exact cells_back o _ _ _ _ (unhide HD) 8
  have a36 : A[36]? = some (.bool o.arch) := by rw [unhide HA]; exact cells_back o _ _ _ _ (unhide HD) 9
  have b0 : B[0]? = some (.string (str o.id)) := by rw [unhide HBB]; exact cells_front o _ _ _ _ 0 (by decide)
  have b1 : B[1]? = some (.int .i64 o.typ) := by rw [unhide HBB]; exact cells_front o _ _ _ _ 1 (by decide)
  have b2 : B[2]? = some (.int .i64 o.alg) := by rw [unhide HBB]; exact cells_front o _ _ _ _ 2 (by decide)
  have b3 : B[3]? = some (.int .i64 o.len) := by rw [unhide HBB]; exact cells_front o _ _ _ _ 3 (by decide)
  have b4 : B[4]? = some (.int .i64 o.mask) := by rw [unhide HBB]; exact cells_front o _ _ _ _ 4 (by decide)
  have b5 : B[5]? = some (.slice mb o.mat.length md) := by rw [unhide HBB]; exact cells_front o _ _ _ _ 5 (by decide)
  have b6 : B[6]? = some (.int .i64 o.state) := by rw [unhide HBB]; exact cells_front o _ _ _ _ 6 (by decide)
  have b27 : B[27]? = some (.int .i64 o.reason) := by rw [unhide HBB]; exact cells_back o _ _ _ _ (unhide HD) 0
  have b28 : B[28]? = some (.string (str o.msg)) := by rw [unhide HBB]; exact cells_back o _ _ _ _ (unhide HD) 1
  have b29 : B[29]? = some (.slice nb o.names.length nd) := by rw [unhide HBB]; exact cells_back o _ _ _ _ (unhide HD) 2
  have b30 : B[30]? = some (.slice lb o.links.length ld) := by rw [unhide HBB]; exact cells_back o _ _ _ _ (unhide HD) 3
  have b31 : B[31]? = some (.slice cb o.custom.length cd) := by rw [unhide HBB]; exact cells_back o _ _ _ _ (unhide HD) 4
  have b32 : B[32]? = some (.bool o.lh) := by rw [unhide HBB]; exact cells_back o _ _ _ _ (unhide HD) 5
  have b33 : B[33]? = some (.int .i64 o.lt) := by rw [unhide HBB]; exact cells_back o _ _ _ _ (unhide HD) 6
  have b34 : B[34]? = some (.int .i64 o.lc) := by rw [unhide HBB]; exact cells_back o _ _ _ _ (unhide HD) 7
  have b35 : B[35]? = some (.int .i64 o.lu) := by rw [unhide HBB]; exact cells_back o _ _ _ _ (unhide HD) 8
  have b36 : B[36]? = some (.bool o.arch) := by rw [unhide HBB]; exact cells_back o _ _ _ _ (unhide HD) 9
  generalize str o.id = S0 at *
  generalize str o.msg = S9 at *
  generalize str o.mat = SM at *
  obtain ⟨dsc, hdu, hdr⟩ : ∃ d, Tryd.prog.underlying 25 = some d ∧ d.isRow = true := ⟨_, Tryd.underDatesS, rfl⟩
  go_enter Tryd.func22, Tryd.ntmps22
  have HW2 : Hid ((w.alloc (.cells A.toArray 32)).alloc (.cells B.toArray 32) = w2) := by show _ = _; rw [unhide HE2, unhide HE1]
  have RA2 : Hid (((w.alloc (.cells A.toArray 32)).alloc (.cells B.toArray 32)).rangeAt w.heap.size 7 D) := by rw [unhide HW2, ← unhide HEK1]; exact unhide RA
  have RB2 : Hid (((w.alloc (.cells A.toArray 32)).alloc (.cells B.toArray 32)).rangeAt (w.heap.size + 1) 7 D) := by rw [unhide HW2, ← unhide HEK1, unhide HEK2]; exact unhide RB
  have SM1 : (convert 22 9 (.slice ma o.mat.length mc)).run Tryd.prog ((w.alloc (.cells A.toArray 32)).alloc (.cells B.toArray 32)) = .ok (.string SM) ((w.alloc (.cells A.toArray 32)).alloc (.cells B.toArray 32)) := by rw [unhide HW2]; exact sm1
  have SM2 : (convert 22 9 (.slice mb o.mat.length md)).run Tryd.prog ((w.alloc (.cells A.toArray 32)).alloc (.cells B.toArray 32)) = .ok (.string SM) ((w.alloc (.cells A.toArray 32)).alloc (.cells B.toArray 32)) := by rw [unhide HW2]; exact sm2
  clear sm1 sm2
  go_upto_region 3 with (first
    | (refine wpList_load_g (by rfl) 25 (.tmp 58) rfl w.heap.size 7 rfl D dsc (unhide RA2) hdu hdr (unhide HDS) ?_)
    | (refine wpList_load_g (by rfl) 25 (.tmp 60) rfl (w.heap.size + 1) 7 rfl D dsc (unhide RB2) hdu hdr (unhide HDS) ?_))
  rw [unhide HW2, ← unhide HEK1, unhide HEK2]
  have HLZ := hide nz
  clear RA2 RB2 SM1 SM2 ND NL GD GL hdu hdr RA RB HDS a0 a1 a2 a3 a4 a5 a6 a27 a28 a32 a33 a34 a35 a36 b0 b1 b2 b3 b4 b5 b6 b27 b28 b32 b33 b34 b35 b36
  have A29 := hide a29
  have A30 := hide a30
  have A31 := hide a31
  have B29 := hide b29
  have B30 := hide b30
  have B31 := hide b31
  obtain ⟨n1, hn1⟩ : ∃ n, n = o.names.length := ⟨_, rfl⟩
  obtain ⟨n2, hn2⟩ : ∃ n, n = o.links.length := ⟨_, rfl⟩
  obtain ⟨n3, hn3⟩ : ∃ n, n = o.custom.length := ⟨_, rfl⟩
  rw [← hn1] at a29 b29 nz IA IB
  rw [← hn2] at a30 b30 lz IA IB
  rw [← hn3] at a31 b31 cz IA IB
  have N1 := hide hn1
  have N2 := hide hn2
  have N3 := hide hn3
  clear hn1 hn2 hn3 A29 A30 A31 B29 B30 B31 HLZ HA HBB
  go_wp2
  go_loopw [5] (fun i wr => ∃ k : Nat, k ≤ n1 ∧ i = .int .i64 k ∧ Hid (Only (fun _ => False) w2 wr)) (fun i _ => n1 - (intOf i).toNat)
  case atStart => exact ⟨0, Nat.zero_le _, rfl, Only.refl _ _⟩
  case round =>
    rename World => wr1
    obtain ⟨k1, hk1, rfl, O1⟩ := hrel
    have x1 := ((unhide HB1).same (unhide O1)).cell 29 _ a29
    have y1 := ((unhide HB2).same (unhide O1)).cell 29 _ b29
    by_cases hlt1 : k1 < n1
    case pos =>
      have hku : k1 < o.names.length := by have := unhide N1; omega
      have hkz : (k1 : Int) < (n1 : Int) := by omega
      obtain ⟨z, hz⟩ : ∃ z, o.names[k1]? = some z := ⟨_, List.getElem?_eq_getElem hku⟩
      have HA1 := ((unhide IA).same (unhide O1)).names
      have HA2 := ((unhide IB).same (unhide O1)).names
      obtain ⟨p1, q1, rfl, hp1, g1⟩ := HA1.at (by omega)
      obtain ⟨p2, q2, rfl, hp2, g2⟩ := HA2.at (by omega)
      have r1 := g1 k1 z hz
      have r2 := g2 k1 z hz
      have s1 := r1 0 _ rfl
      have s2 := r2 0 _ rfl
      rw [Nat.add_zero, Nat.mul_one] at s1 s2
      generalize str z = Z at *
      clear r1 r2 g1 g2 hz hp1 hp2 hku HA1 HA2
      go_wp2_with fail
      go_quiet (fail)
      go_wp2
      go_roundw
      case rel => exact ⟨k1 + 1, by omega, by go_num, (unhide O1).drewN _⟩
      case measure => simp [intOf]; omega
    case neg =>
      obtain rfl : k1 = n1 := by omega
      go_wp2
      clear x1 y1
      go_loopw [6] (fun i wr => ∃ k : Nat, k ≤ n2 ∧ i = .int .i64 k ∧ Hid (Only (fun _ => False) w2 wr)) (fun i _ => n2 - (intOf i).toNat)
      case atStart => exact ⟨0, Nat.zero_le _, rfl, unhide O1⟩
      case round =>
        rename World => wr2
        obtain ⟨k2, hk2, rfl, O2⟩ := hrel
        have x2 := ((unhide HB1).same (unhide O2)).cell 30 _ a30
        have y2 := ((unhide HB2).same (unhide O2)).cell 30 _ b30
        by_cases hlt2 : k2 < n2
        case pos =>
          have hku : k2 < o.links.length := by have := unhide N2; omega
          have hkz : (k2 : Int) < (n2 : Int) := by omega
          obtain ⟨z, hz⟩ : ∃ z, o.links[k2]? = some z := ⟨_, List.getElem?_eq_getElem hku⟩
          have HA1 := ((unhide IA).same (unhide O2)).links
          have HA2 := ((unhide IB).same (unhide O2)).links
          obtain ⟨p1, q1, rfl, hp1, g1⟩ := HA1.at (by omega)
          obtain ⟨p2, q2, rfl, hp2, g2⟩ := HA2.at (by omega)
          have r1 := g1 k2 z hz
          have r2 := g2 k2 z hz
          have s1 := r1 0 _ rfl
          have s2 := r2 0 _ rfl
          have t1 := r1 1 _ rfl
          have t2 := r2 1 _ rfl
          rw [Nat.add_zero] at s1 s2
          obtain ⟨z1, z2⟩ := z
          simp only at s1 s2 t1 t2
          generalize str z2 = Z2 at *
          clear r1 r2 g1 g2 hz hp1 hp2 hku HA1 HA2
          go_wp2_with fail
          go_quiet (fail)
          go_wp2
          go_roundw
          case rel => exact ⟨k2 + 1, by omega, by go_num, (unhide O2).drewN _⟩
          case measure => simp [intOf]; omega
        case neg =>
          obtain rfl : k2 = n2 := by omega
          go_wp2
          clear x2 y2
          go_loopw [7] (fun i wr => ∃ k : Nat, k ≤ n3 ∧ i = .int .i64 k ∧ Hid (Only (fun _ => False) w2 wr)) (fun i _ => n3 - (intOf i).toNat)
          case atStart => exact ⟨0, Nat.zero_le _, rfl, unhide O2⟩
          case round =>
            rename World => wr3
            obtain ⟨k3, hk3, rfl, O3⟩ := hrel
            have x3 := ((unhide HB1).same (unhide O3)).cell 31 _ a31
            have y3 := ((unhide HB2).same (unhide O3)).cell 31 _ b31
            by_cases hlt3 : k3 < n3
            case pos =>
              have hku : k3 < o.custom.length := by have := unhide N3; omega
              have hkz : (k3 : Int) < (n3 : Int) := by omega
              obtain ⟨z, hz⟩ : ∃ z, o.custom[k3]? = some z := ⟨_, List.getElem?_eq_getElem hku⟩
              have HA1 := ((unhide IA).same (unhide O3)).custom
              have HA2 := ((unhide IB).same (unhide O3)).custom
              obtain ⟨p1, q1, rfl, hp1, g1⟩ := HA1.at (by omega)
              obtain ⟨p2, q2, rfl, hp2, g2⟩ := HA2.at (by omega)
              have r1 := g1 k3 z hz
              have r2 := g2 k3 z hz
              have s1 := r1 0 _ rfl
              have s2 := r2 0 _ rfl
              have t1 := r1 1 _ rfl
              have t2 := r2 1 _ rfl
              rw [Nat.add_zero] at s1 s2
              obtain ⟨z1, z2⟩ := z
              simp only at s1 s2 t1 t2
              generalize str z2 = Z2 at *
              generalize str z1 = Z1 at *
              clear r1 r2 g1 g2 hz hp1 hp2 hku HA1 HA2
              go_wp2_with fail
              go_quiet (fail)
              go_wp2
              go_roundw
              case rel => exact ⟨k3 + 1, by omega, by go_num, (unhide O3).drewN _⟩
              case measure => simp [intOf]; omega
            case neg =>
              obtain rfl : k3 = n3 := by omega
              go_wp2
              go_ret
              exact ⟨rfl, (unhide OW).trans (unhide O3) (fun _ _ e => e)⟩
end Ob
end Go.Proofs.YtadpmninoghcjaaDoor
