/-
  wal's readUnits and Open.
-/
import Derived.Test.YtmcobkcnpnfobaaGreatWalFind
import Derived.Test.YtmcobkcnpnfobaaGreatRowV
import Derived.Deep.RegionHeld
namespace Go.Proofs.YtmcobkcnpnfobaaGreat
open Go.RowKit
set_option linter.unusedSimpArgs false
set_option linter.unusedVariables false
namespace Wal

theorem takeUnit_rest {bs u r : List UInt8} (h : takeUnit bs = some (u, r)) : r = bs.drop (size u * 64) ∧ size u * 64 ≤ bs.length ∧ lay u = bs.take (size u * 64) := by
  unfold takeUnit at h
  split at h
  · rename_i hc
    simp only [Option.some.injEq, Prod.mk.injEq] at h
    obtain ⟨rfl, rfl⟩ := h
    exact ⟨rfl, ((takeUnit_iff bs hc.1).1 hc.2).1, hc.2⟩
  · cases h

theorem takeUnit_lt {bs u r : List UInt8} (h : takeUnit bs = some (u, r)) : r.length < bs.length := by
  obtain ⟨rfl, hl, _⟩ := takeUnit_rest h
  have := size_pos u
  simp
  omega

theorem takeAll_fuel : ∀ (n : Nat) (bs : List UInt8) (k m : Nat), bs.length ≤ n → bs.length ≤ k → bs.length ≤ m → takeAll k bs = takeAll m bs := by
  intro n
  induction n with
  | zero =>
    intro bs k m hn _ _
    have : bs = [] := List.eq_nil_of_length_eq_zero (by omega)
    subst this
    cases k <;> cases m <;> simp [takeAll]
  | succ n ih =>
    intro bs k m hn hk hm
    by_cases hb : bs = []
    · subst hb
      cases k <;> cases m <;> simp [takeAll]
    · have hp : 0 < bs.length := List.length_pos_iff.2 hb
      obtain ⟨k, rfl⟩ : ∃ j, k = j + 1 := ⟨k - 1, by omega⟩
      obtain ⟨m, rfl⟩ : ∃ j, m = j + 1 := ⟨m - 1, by omega⟩
      simp only [takeAll, if_neg hb]
      cases ht : takeUnit bs with
      | none => rfl
      | some p =>
        obtain ⟨u, r⟩ := p
        have := takeUnit_lt ht
        simp only
        rw [ih r k m (by omega) (by omega) (by omega)]

theorem takeAll_nil : takeAll 0 [] = some [] := by simp [takeAll]

theorem takeAll_none {bs : List UInt8} (hb : bs ≠ []) (h : takeUnit bs = none) : takeAll bs.length bs = none := by
  have hp : 0 < bs.length := List.length_pos_iff.2 hb
  obtain ⟨k, hk⟩ : ∃ j, bs.length = j + 1 := ⟨bs.length - 1, by omega⟩
  rw [hk]
  simp only [takeAll, if_neg hb, h]

theorem takeAll_some {bs u r : List UInt8} (hb : bs ≠ []) (h : takeUnit bs = some (u, r)) : takeAll bs.length bs = (takeAll r.length r).map (u :: ·) := by
  have hp : 0 < bs.length := List.length_pos_iff.2 hb
  obtain ⟨k, hk⟩ : ∃ j, bs.length = j + 1 := ⟨bs.length - 1, by omega⟩
  have hl := takeUnit_lt h
  rw [hk]
  simp only [takeAll, if_neg hb, h]
  rw [takeAll_fuel k r k r.length (by omega) (by omega) (by omega)]

theorem map_push (o : Option (List (List UInt8))) (us : List (List UInt8)) (u : List UInt8) : (o.map (u :: ·)).map (us ++ ·) = o.map ((us ++ [u]) ++ ·) := by cases o <;> simp

/-- what readUnits answers -/
def ReadU (w w' : World) (e : Ending) : Option (List (List UInt8)) → Prop
  | none => e = .returned (.tuple #[.slice none 0 0, .int .i64 5])
  | some us => ∃ v, e = .returned (.tuple #[v, .int .i64 0]) ∧ OwnsU w.heap.size w' v us

section
variable {w0 w w' : World} {F : Nat → Prop} {B L : Nat} {d : Dk} {l : Lg}

theorem readFrom_length (hf : d.Fine) (at' : Nat) : ∀ (k : Nat) (bs : List UInt8), readFrom d at' k = some bs → bs.length = k * 64 := by
  intro k
  induction k with
  | zero => intro bs h; simp [readFrom] at h; subst h; rfl
  | succ k ih =>
    intro bs h
    unfold readFrom at h
    split at h
    · cases h
    · rename_i a ha
      split at h
      · cases h
      · rename_i b hb
        simp only [Option.some.injEq] at h
        subst h
        have h1 := ih a ha
        have h2 : b.length = 64 := by
          unfold Dk.sec at hb
          split at hb
          · rename_i he
            simp only [Option.some.injEq] at hb
            subst hb
            exact hf.read64 _ he
          · cases hb
        rw [List.length_append, h1, h2]
        omega

theorem readFrom_step (d : Dk) (st k : Nat) (bs : List UInt8) (h : readFrom d st k = some bs) : readFrom d st (k + 1) = (d.sec (st + k)).map (bs ++ ·) := by
  simp only [readFrom, h]
  cases d.sec (st + k) <;> rfl
theorem readFrom_none (d : Dk) (st k : Nat) (h : readFrom d st (k + 1) = none) : ∀ m, k + 1 ≤ m → readFrom d st m = none := by
  intro m
  induction m with
  | zero => intro h; omega
  | succ m ih =>
    intro hm
    by_cases hk : k + 1 ≤ m
    · simp only [readFrom, ih hk]
    · obtain rfl : m = k := by omega
      exact h

set_option maxHeartbeats 1000000 in
theorem readUnits_any (h : Logs w0 w F B L d l) : Calls Tryz.prog 57 #[.pointer (some ⟨L, 0, none⟩)] w fun e w' => ReadU w w' e (unitsOf d l.hd) ∧ Only (fun _ => False) w w' := by
  have H := hide h
  have hwk := h.works
  have hh := half_le d h.dk.fine
  have hu := h.fine.used
  have ha := h.fine.area
  have HFN := hide h.dk.fine
  have hst : start d l.hd.area ≤ 2 + 2047 := by
    unfold start
    have : l.hd.area * d.half ≤ 1 * d.half := Nat.mul_le_mul_right _ ha
    omega
  clear h
  obtain ⟨c0, c1, c2, c3, c4, c5, cf⟩ := (unhide H).lg.cells
  go_enter Tryz.func57, Tryz.ntmps57
  go_wp2_with fail
  refine (WO.mine_new w).mono ?_
  rintro e w1 ⟨wb, rfl, m1⟩
  clear c0 c1 c2 c3 c4 c5 cf
  obtain ⟨c0, c1, c2, c3, c4, c5, cf⟩ := ((unhide H).same m1.only).lg.cells
  have HM1 := hide m1
  clear m1
  go_wp2_with fail
  go_loopw [18] (fun i wr => ∃ k bs, k ≤ l.hd.used ∧ i = .int .i64 k ∧ Hid (readFrom d (start d l.hd.area) k = some bs) ∧ WO.Mine w wr wb bs) (fun i _ => l.hd.used - (intOf i).toNat)
  case atStart => exact ⟨0, [], Nat.zero_le _, rfl, rfl, unhide HM1⟩
  case round =>
    obtain ⟨k, bs, hk, rfl, HRF, hm⟩ := hrel
    have hbl := readFrom_length (unhide HFN) _ _ _ (unhide HRF)
    have hbl2 : bs.length ≤ 131008 := by omega
    have HBL := hide hbl
    clear hbl c0 c1 c2 c3 c4 c5 cf
    have HL := hide ((unhide H).same hm.only)
    have HM := hide hm
    clear hm
    obtain ⟨c0, c1, c2, c3, c4, c5, cf⟩ := (unhide HL).lg.cells
    by_cases hlt : k < l.hd.used
    · have hlt' : (k : Int) < l.hd.used := by omega
      obtain ⟨st, hste⟩ : ∃ st, st = start d l.hd.area := ⟨_, rfl⟩
      have HST := hide (fun (w' : World) (o : Only (fun _ => False) wr w') => start_any ((unhide HL).same o) l.hd.area ha)
      rw [← hste] at HRF HST hst
      have HWR : Hid (IntKind.i64.wrap ((st : Int) + (k : Int)) = ((st + k : Nat) : Int)) := by
        show IntKind.i64.wrap ((st : Int) + (k : Int)) = ((st + k : Nat) : Int)
        rw [IntKind.wrap_i64]; omega
      have HSTE := hide hste
      obtain ⟨re, hre0⟩ : ∃ re, re = d.readE ((st + k : Nat) : Int) := ⟨_, rfl⟩
      obtain ⟨b4, hb4⟩ : ∃ b, b = d.read ((st + k : Nat) : Int) := ⟨_, rfl⟩
      have HRD := hide (fun (w' : World) (o : Only (fun _ => False) wr w') => dks_read ((unhide HL).same o).dk (by omega) ((st + k : Nat) : Int))
      rw [← hre0, ← hb4] at HRD
      have hr64 := (unhide HFN).read64 ((st + k : Nat) : Int)
      have HSEC : Hid (d.sec (st + k) = if re = 0 then some b4 else none) := by
        show d.sec (st + k) = _
        rw [hre0, hb4]
        rfl
      rw [← hre0, ← hb4] at hr64
      have HRF1 := hide (readFrom_step d st k bs (unhide HRF))
      clear hste hre0 hb4
      go_wp2_with fail
      go_region_held (fun w' => w'.cell? ⟨L, 0, none⟩ = some (.pointer (some ⟨B, 0, none⟩)) ∧ w'.cell? ⟨L, 2, none⟩ = some (.int .i64 l.hd.area)) ((first | exact ⟨d0, d2⟩ | exact ⟨c0, c2⟩)) ((first | (go_at_call 61; refine (unhide HST _ ((Only.refl _ _).drew)).mono ?_; rintro e w3 ⟨rfl, hw3⟩; subst hw3) | (go_at_call 60; rw [unhide HWR]; refine (unhide HRD _ ((Only.refl _ _).drew)).mono ?_; rintro e w4 ⟨x4, rfl, hx4, ox4⟩; have d0 := ox4.cell c0 (fun h => h); have d2 := ox4.cell c2 (fun h => h))))
      have HM4 := hide ((unhide HM).same (((Only.refl _ _).drew).trans ox4 (fun _ _ e => e)))
      have hhx := Has.ofOwns hx4.out
      clear hx4 d0 d2 HL c0 c1 c2 c3 c4 c5 cf
      by_cases hre : re = 0
      · have hl64 := hr64 hre
        have HS1 : Hid (readFrom d st (k + 1) = some (bs ++ b4)) := by
          show readFrom d st (k + 1) = _
          rw [unhide HRF1, unhide HSEC, if_pos hre]
          rfl
        subst hre
        have hl641 : b4.length ≤ 64 := by omega
        clear hr64 HSEC hl64
        go_wp2_with fail
        refine (WO.mine_raw (unhide HM4) _ b4 hhx (by omega)).mono ?_
        rintro e w5 ⟨rfl, m5⟩
        have HM5 := hide m5
        clear m5
        go_wp2_with fail
        go_roundw
        case rel => exact ⟨k + 1, bs ++ b4, by omega, by go_num, by show readFrom d _ (k + 1) = _; rw [← unhide HSTE]; exact unhide HS1, unhide HM5⟩
        case measure => simp [intOf]; omega
      · have HUN : Hid (unitsOf d l.hd = none) := by
          have h1 : readFrom d st (k + 1) = none := by
            rw [unhide HRF1, unhide HSEC, if_neg hre]
            rfl
          show unitsOf d l.hd = none
          unfold unitsOf
          rw [← unhide HSTE, readFrom_none d st k h1 _ (by omega)]
        clear hr64
        go_wp2
        go_ret2
        rw [unhide HUN]
        exact ⟨rfl, (unhide HM4).only⟩
    · obtain rfl : k = l.hd.used := by omega
      have hnlt : ¬ (l.hd.used : Int) < l.hd.used := by omega
      have HUN : Hid (unitsOf d l.hd = takeAll bs.length bs) := by
        show unitsOf d l.hd = _
        unfold unitsOf
        rw [unhide HRF]
      go_wp2_with fail
      refine (WO.mine_bytes (unhide HM) (by omega)).mono ?_
      rintro e w2 ⟨y2, rfl, hy2⟩
      have o2 := (unhide HM).only.trans hy2.only (fun _ _ e => e)
      have HY2 := hide (RO.mine_new _ bs w2 (Has.ofOwns hy2.own) (by omega))
      clear hy2
      go_wp2_with fail
      refine (unhide HY2).mono ?_
      rintro e w3 ⟨rb, rfl, m3⟩
      have HM3 := hide (m3.back o2)
      have hb0 : bs.length % 64 = 0 := by rw [unhide HBL]; simp
      have hrb := m3.lt
      have h03 := (m3.back o2).only.size
      clear m3 o2 HY2 c0 c1 c2 c3 c4 c5 cf
      go_wp2_with fail
      go_loopg [8] bs.length (fun k p wr => ∃ us rest, RO.Mine w w3.heap.size wr rb false rest ∧ OwnsU w3.heap.size wr p us ∧ w3.heap.size ≤ wr.heap.size ∧ us.length + rest.length ≤ bs.length ∧ rest.length ≤ k ∧ rest.length % 64 = 0 ∧ k ≤ bs.length ∧ Hid (takeAll bs.length bs = (takeAll rest.length rest).map (us ++ ·)))
      case atStart => exact ⟨[], bs, unhide HM3, ownsU_nil _ _, Nat.le_refl _, by simp, Nat.le_refl _, hb0, Nat.le_refl _, by show _ = _; simp⟩
      case round =>
        obtain ⟨us, rest, hm, hus, hsz, hub, hrk, hr64, hkb, HT⟩ := hrel
        have HMM := hide hm
        have HUS := hide hus
        clear hm hus
        have hul : us.length ≤ 131008 := by omega
        go_wp2_with fail
        refine (RO.mine_left (unhide HMM)).mono ?_
        rintro e wr ⟨rfl, rfl⟩
        by_cases hne : rest = []
        · subst hne
          go_wp2
          go_ret2
          rw [unhide HUN, unhide HT]
          exact ⟨⟨_, rfl, by simpa using (unhide HUS).base h03⟩, (unhide HMM).only⟩
        · have hp : 0 < rest.length := List.length_pos_iff.2 hne
          have hp' : (0 : Int) < rest.length := by omega
          have HTU := hide (takeUnit_any (unhide HMM) (by omega) (by omega))
          have HT0 := hide (fun h => takeAll_none hne h)
          have HT1 := hide (fun u r h => takeAll_some (u := u) (r := r) hne h)
          have HTR := hide (fun u r h => takeUnit_rest (bs := rest) (u := u) (r := r) h)
          have HTL := hide (fun u r h => takeUnit_lt (bs := rest) (u := u) (r := r) h)
          cases htu : takeUnit rest with
          | none =>
            rw [htu] at HTU
            have h0 := unhide HT0 htu
            rw [h0] at HT
            clear htu h0
            go_wp2_with fail
            refine (unhide HTU).mono ?_
            rintro e w5 ⟨⟨rfl, o5⟩, _⟩
            go_wp2
            go_ret2
            rw [unhide HUN, unhide HT]
            exact ⟨rfl, o5⟩
          | some pr =>
            obtain ⟨u, r⟩ := pr
            rw [htu] at HTU
            have h1 := unhide HT1 u r htu
            have h2 := unhide HTR u r htu
            have h3 := unhide HTL u r htu
            rw [h1] at HT
            have hr : r.length % 64 = 0 := by rw [h2.1]; simp; have := h2.2.1; omega
            clear htu h1 h2
            go_wp2_with fail
            refine (unhide HTU).mono ?_
            rintro e w5 ⟨⟨x5, rfl, hx5, m5⟩, o5⟩
            have HU5 := hide ((unhide HUS).later o5 (fun k hk e => by omega))
            have h35 := o5.size
            obtain ⟨xo, xc, rfl, _⟩ := (Has.ofOwns hx5.out).shape
            have HX5 := hide hx5
            have HM5 := hide m5
            clear hx5 m5 o5
            obtain ⟨vs, hvs, hev⟩ := (unhide HU5).own
            have HVS := hide hvs
            have HEV := hide hev
            clear hvs hev
            have hH5 := Has.ofOwns (unhide HX5).out
            obtain ⟨i1, hi1, hz10, hz11, hz12⟩ := info_parts Tryz.info24
            have hfr := owns_fresh (unhide HX5)
            go_wp2_with (at_builtin; refine wpList_append_hasV rfl (.tmp 57) (.tmp 59) 86 rfl w3.heap.size 24 i1 (.slice none 0 0) 24 Tryz.underlying86 hi1 hz10 hz11 hz12 rfl u8 us.length vs rfl ((unhide HVS).alloc _) _ [.slice xo u.length xc] rfl (hasV_lit (heap_alloc_new _ _) (by simp [maxLen])) (by simp [Value.oneCell']) (by simp [maxLen]; omega) (by simp; omega) (by simp; omega) ?_; intro ao6 cap6 w6 own6 gr6 at6)
            have hP := OwnsU.pushes (xs := [u]) (unhide HVS) (unhide HEV) (ys := [.slice xo u.length xc]) ⟨hH5, fun hne k hk => ⟨by have := hfr k hk; omega, fun e => by have := hfr k hk; have := ((unhide HUS).own.choose_spec.1.lt k e).2; omega⟩, trivial⟩ ((Only.refl _ _).alloc _) own6 gr6 at6
            have HT' : Hid (takeAll bs.length bs = (takeAll r.length r).map ((us ++ [u]) ++ ·)) := by
              show takeAll bs.length bs = _
              rw [unhide HT, map_push]
            have hub' : (us ++ [u]).length + r.length ≤ bs.length := by rw [List.length_append, List.length_singleton]; omega
            have hsz' : w3.heap.size ≤ w6.heap.size := by have := hP.2.size; omega
            have hm6 := (unhide HM5).later hP.2 (fun k e => ((unhide HVS).lt k e).1)
            go_roundg r.length
            case measure => omega
            case rel => exact ⟨us ++ [u], r, hm6, hP.1, hsz', hub', Nat.le_refl _, hr, by omega, HT'⟩


/-- what Open answers of a disk that is up -/
def OpenU (w0 w w' : World) (F : Nat → Prop) (B : Nat) (d : Dk) (e : Ending) : Option (List (List UInt8)) → Prop
  | none => e = .returned (.tuple #[.pointer none, .slice none 0 0, .int .i64 5])
  | some us => ∃ L v, e = .returned (.tuple #[.pointer (some ⟨L, 0, none⟩), v, .int .i64 0]) ∧ OwnsU (L + 1) w' v us ∧ Logs w0 w' F B L d (lgOf (found d)) ∧ w.heap.size ≤ L

theorem open_nil (w : World) : Calls Tryz.prog 46 #[.pointer none] w fun e w' => e = .returned (.tuple #[.pointer none, .slice none 0 0, .int .i64 1]) ∧ w' = w := by
  go_enter Tryz.func46, Tryz.ntmps46
  go_wp2
  go_ret3
  exact ⟨rfl, rfl⟩

theorem Lg.Fine.zero (half : Nat) : (⟨Hd.zero, 0, false⟩ : Lg).Fine half := ⟨by decide, by decide, Nat.zero_le _, by decide⟩

theorem open_any (h : Dks w0 w F B d) (hw : d.works ≤ 900000) (hd : d.down = false) : Calls Tryz.prog 46 #[.pointer (some ⟨B, 0, none⟩)] w fun e w' => OpenU w0 w w' F B d e (unitsOf d (found d).1) ∧ Only (fun _ => False) w w' := by
  have HD := hide (dks_down h)
  rw [hd] at HD
  have H := hide h
  clear h hd
  go_enter Tryz.func46, Tryz.ntmps46
  go_wp2_with fail
  refine (unhide HD).mono ?_
  rintro e w ⟨rfl, rfl⟩
  go_wp2_with fail
  have hB := heap_alloc_new w (.cells #[.pointer (some ⟨B, 0, none⟩), .int .u64 0, .int .i64 0, .int .i64 0, .int .i64 0, .bool false] 108)
  have o1 := (Only.refl (fun _ => False) w).alloc (.cells #[.pointer (some ⟨B, 0, none⟩), .int .u64 0, .int .i64 0, .int .i64 0, .int .i64 0, .bool false] 108)
  generalize w.alloc (.cells #[.pointer (some ⟨B, 0, none⟩), .int .u64 0, .int .i64 0, .int .i64 0, .int .i64 0, .bool false] 108) = w1 at *
  have HL1 : Hid (Logs w0 w1 F B w.heap.size d ⟨Hd.zero, 0, false⟩) := ⟨(unhide H).same o1, hB, fun e => by have := (unhide H).lt _ e; omega, (unhide H).only.size, Lg.Fine.zero _, hw⟩
  have HO1 := hide o1
  clear hB o1
  refine (findHead_any (unhide HL1) rfl).mono ?_
  rintro e w2 ⟨rfl, hl2, o2⟩
  have HL2 := hide hl2
  have o02 : Only (fun _ => False) w w2 := (unhide HO1).trans o2 (fun i hi e => by omega)
  have HO2 := hide o02
  have HRU := hide (readUnits_any hl2)
  have e1 : (lgOf (found d)).hd = (found d).1 := rfl
  rw [e1] at HRU
  clear hl2 o02 o2 e1
  obtain ⟨ou, hou⟩ : ∃ ou, unitsOf d (found d).1 = ou := ⟨_, rfl⟩
  rw [hou] at HRU
  have HOU := hide hou
  clear hou
  cases ou with
  | none =>
    go_wp2_with fail
    refine (unhide HRU).mono ?_
    rintro e w3 ⟨rfl, o3⟩
    go_wp2
    go_ret3
    rw [unhide HOU]
    exact ⟨rfl, (unhide HO2).trans o3 (fun _ _ e => e)⟩
  | some us =>
    go_wp2_with fail
    refine (unhide HRU).mono ?_
    rintro e w3 ⟨⟨v, rfl, hv⟩, o3⟩
    go_wp2
    go_ret3
    rw [unhide HOU]
    exact ⟨⟨_, v, rfl, hv.base (unhide HL2).lt, (unhide HL2).same o3, Nat.le_refl _⟩, (unhide HO2).trans o3 (fun _ _ e => e)⟩

end
end Wal
end Go.Proofs.YtmcobkcnpnfobaaGreat
