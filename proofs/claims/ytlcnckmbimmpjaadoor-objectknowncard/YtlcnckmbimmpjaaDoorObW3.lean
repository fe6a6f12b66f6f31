/-
  object: all parts, one behind the other.
-/
import Derived.Test.YtlcnckmbimmpjaaDoorObW2
import Derived.Test.YtlcnckmbimmpjaaDoorObR3
import Derived.Test.YtlcnckmbimmpjaaDoorWrLO
namespace Go.Proofs.YtlcnckmbimmpjaaDoor
open Go.RowKit
set_option linter.unusedSimpArgs false
set_option linter.unusedVariables false
namespace Ob

/-- what is right is not too long -/
structure Small (o : Ob) : Prop where
  id : o.id.length ≤ 200
  mat : o.mat.length ≤ 200
  msg : o.msg.length ≤ 200
  ten : o.dates.length = 10
  names : o.names.length ≤ 20 ∧ ∀ x ∈ o.names, x.length ≤ 200
  links : o.links.length ≤ 20 ∧ ∀ x ∈ o.links, x.2.length ≤ 200
  custom : o.custom.length ≤ 20 ∧ ∀ x ∈ o.custom, x.1.length ≤ 200 ∧ x.2.length ≤ 200

theorem small_of {o : Ob} (hd : o.dates.length = 10) (h : rightB o = true) : Small o := by
  unfold rightB listsB at h
  simp only [Bool.and_eq_true, decide_eq_true_eq] at h
  obtain ⟨⟨⟨⟨⟨⟨hid, hn⟩, hm⟩, hda⟩, hre⟩, ⟨⟨hna, hli⟩, hcu⟩⟩, hlim⟩ := h
  have hmsg : o.msg.length ≤ 120 := by
    unfold reasB at hre
    split at hre
    · simp at hre; rw [hre]; simp
    · simp only [Bool.and_eq_true] at hre; exact isMsg_len hre.2
  refine ⟨by have := isText_len hid; omega, by omega, by omega, hd, ⟨by have := listB_len hna; omega, fun x hx => by have := isText_len (listB_all hna x hx); omega⟩, ⟨by have := listB_len hli; omega, fun x hx => ?_⟩, ⟨by have := listB_len hcu; omega, fun x hx => ?_⟩⟩
  · have h1 := listB_all hli x hx
    unfold linkB at h1
    rw [Bool.and_eq_true] at h1
    have := isText_len h1.2
    omega
  · have h1 := listB_all hcu x hx
    unfold custB isCust at h1
    simp only [Bool.and_eq_true] at h1
    have h2 := isText_len h1.1.1
    have h3 := isText_len h1.2
    exact ⟨by omega, by omega⟩

theorem textL_len (s : List UInt8) : (textL s).length = 2 + s.length := by unfold textL; rw [List.length_append, be_length]
theorem dateL_len (d : Bool × Int) : (dateL d).length ≤ 9 := by
  unfold dateL flagL b1 b8
  rw [List.length_append, be_length]
  split
  · rw [be_length]; omega
  · simp
theorem allL_len {α : Type} (f : α → List UInt8) (l : List α) (h : l.length ≤ 20) (hf : ∀ x ∈ l, (f x).length ≤ 410) : (allL f l).length ≤ 9000 := by
  unfold allL b1
  rw [List.length_append, be_length]
  have := flat_le f 410 l hf l.length
  rw [List.take_of_length_le (Nat.le_refl _)] at this
  have h2 : l.length * 410 ≤ 20 * 410 := Nat.mul_le_mul_right _ h
  omega
theorem limL_len (o : Ob) : (limL o).length ≤ 20 := by
  unfold limL flagL b1 b8
  rw [List.length_append, be_length]
  split
  · simp [be_length]
  · simp

theorem has_sep {w0 x : World} {b : Nat} {v v2 : Value} {cs : List UInt8} (hb : w0.heap.size ≤ b) (hv : ∀ k, v.ownBlock = some k → w0.heap.size ≤ k) {w2 : World} (hw : w0.heap.size ≤ w2.heap.size) (q : Wrote OW w2 b v x v2 cs) {k : Nat} (hk : k < w0.heap.size) : k ≠ b ∧ v2.ownBlock ≠ some k := by
  refine ⟨by omega, fun e => ?_⟩
  rcases q.fresh k e with e2 | e2
  · have := hv k e2; omega
  · omega
theorem hasF_blk {α : Type} {w : World} {v : Value} {m : Nat} {f : α → List Value} {xs : List α} (h : HasF w v m f xs) (hne : xs ≠ []) : ∀ k, blk v = some k → k < w.heap.size := by
  intro k hk
  obtain ⟨ao, cap, e, h1, h2, h3⟩ := h.has
  obtain ⟨b, o, ea, hb, hr⟩ := h3 (List.length_pos_iff.2 hne)
  subst ea e
  simp only [blk, Option.map_some, Option.some.injEq] at hk
  omega

set_option maxRecDepth 100000 in
set_option maxHeartbeats 4000000 in
theorem wobject_any (o : Ob) (mv nv lv cv : Value) (b : Nat) (bs : List UInt8) (v : Value) (w0 w : World) (h : In w0 o mv nv lv cv) (hmo : Only (fun _ => False) w0 w) (hup : w0.heap.size ≤ b) (hv : WrAt OW w b v bs) (hvk : ∀ k, v.ownBlock = some k → w0.heap.size ≤ k) (hsm : Small o) (hr : bs.length + 1000000 ≤ 140737488355328) :
    Calls Tryd.prog 25 #[wv b, val o mv nv lv cv] w (Puts w b v bs (lay o)) := by
  have HO0 := hide hmo
  unfold val
  obtain ⟨A, hA⟩ : ∃ A, A = (cells o mv nv lv cv).toArray := ⟨_, rfl⟩
  rw [← hA]
  obtain ⟨w1, k1, e1, ek1, hb1, o1, hs1⟩ := boxed w #[.pointer (some ⟨b, 0, none⟩)] 60
  obtain ⟨w2, k2, e2, ek2, hb2, o2, hs2⟩ := boxed w1 A 35
  have HB1 := hide ((hb1.same o2).cell 0 (.pointer (some ⟨b, 0, none⟩)) rfl)
  have HB2 := hide hb2
  have HA := hide hA
  have hk1 : w.heap.size ≤ k1 := by omega
  have hk2 : w.heap.size ≤ k2 := by omega
  have hw02 : w0.heap.size ≤ w2.heap.size := by have := hmo.size; omega
  have HE2 := hide e2
  have HEK2 : Hid (k2 = k1 + 1) := by show _ = _; omega
  have Q0 := hide (wrote_same hv (o1.trans o2 (fun _ _ e => e)))
  have O02 := hide (hmo.trans (o1.trans o2 (fun _ _ e => e)) (fun _ _ e => e))
  have HH := hide hv
  have HI := hide h
  have HS := hide hsm
  have HR := hide hr
  have HVK := hide hvk
  have HUP := hide hup
  have QW := Q0
  have QB : Hid (Wrote OW w2 b v w2 v bs) := ((unhide Q0).now).wrote
  have HR0 : Hid (bs.length ≤ bs.length + 0 * 10000) := by show _ ≤ _; omega
  have hma : ∃ ma mc, mv = .slice ma o.mat.length mc := by obtain ⟨a, c, e, _⟩ := h.mat.shape; exact ⟨a, c, e⟩
  obtain ⟨ma, mc, hmv⟩ := hma
  have hna : ∃ ma mc, nv = .slice ma o.names.length mc := by obtain ⟨a, c, e, _⟩ := h.names.shape; exact ⟨a, c, e⟩
  obtain ⟨na, nc, hnv⟩ := hna
  have hla : ∃ ma mc, lv = .slice ma o.links.length mc := by obtain ⟨a, c, e, _⟩ := h.links.shape; exact ⟨a, c, e⟩
  obtain ⟨la, lc, hlv⟩ := hla
  have hca : ∃ ma mc, cv = .slice ma o.custom.length mc := by obtain ⟨a, c, e, _⟩ := h.custom.shape; exact ⟨a, c, e⟩
  obtain ⟨ca, cc, hcv⟩ := hca
  have HMV := hide hmv
  have HNV := hide hnv
  have HLV := hide hlv
  have HCV := hide hcv
  clear hmv hnv hlv hcv
  clear hb1 hb2 o1 o2 hs1 hs2 hr e2 ek2 hsm h hmo hv hvk hA
  unfold wv
  go_enter Tryd.func25, Tryd.ntmps25
  go_upto_region 1 with fail
  rw [← e1, ← ek1, ← unhide HE2, ← unhide HEK2]
  clear e1 ek1 HE2 HEK2
  obtain ⟨x0, hx0⟩ : ∃ x, x = w2 := ⟨_, rfl⟩
  have QX : Hid (Wrote OW w2 b v x0 v bs) := by rw [hx0]; exact QB
  rw [← hx0]
  clear hx0
  obtain ⟨v0, Q0b⟩ : ∃ v', Hid (Wrote OW w2 b v x0 v' bs) := ⟨v, QX⟩
  obtain ⟨P0, hP0⟩ : ∃ P, P = bs := ⟨_, rfl⟩
  rw [← hP0] at Q0b
  have L0 : Hid (P0.length ≤ bs.length + 0) := by show _ ≤ _; rw [hP0]; omega
  have HP0 := hide hP0
  clear hP0 Q0 QB QX HR0
  have Q0 := Q0b
  clear Q0b
  have OX0 : Hid (Only (fun _ => False) w0 x0) := (WO.Mine.wrote (unhide O02) (unhide HUP) (unhide HVK) (unhide Q0)).only
  have p0 := WrAt.off (unhide HH) (unhide Q0) hk1 (unhide HB1)
  have c0_0 := WrAt.off (unhide HH) (unhide Q0) hk2 (at_front (unhide HA) (unhide HB2) 0 (by decide) _ rfl)
  have lb0 := unhide L0
  have rb0 := unhide HR
  have C0 := hide (wtext_any b v0 P0 o.id x0 (unhide Q0).now (by have := (unhide HS).id; omega) (by have := (unhide HS).id; omega))
  unfold wv at C0
  clear lb0 rb0
  go_wp2_with fail
  refine (unhide C0).mono ?_
  rintro e x1 ⟨rfl, v1, q0⟩
  obtain ⟨P1, hP1⟩ : ∃ P, P = P0 ++ textL o.id := ⟨_, rfl⟩
  have q0 : Wrote OW x0 b v0 x1 v1 (P0 ++ textL o.id) := q0
  rw [← hP1] at q0
  have Q1 := hide ((unhide Q0).trans q0)
  have L1 : Hid (P1.length ≤ bs.length + 1 * 10000) := by
    show _ ≤ _
    rw [hP1, List.length_append]
    have h1 := unhide L0
    have h2 : (textL o.id).length ≤ 10000 := by
      rw [textL_len]; have := (unhide HS).id; omega
    omega
  have HP1 := hide hP1
  clear hP1 q0 p0 c0_0 C0 OX0 Q0
  have OX1 : Hid (Only (fun _ => False) w0 x1) := (WO.Mine.wrote (unhide O02) (unhide HUP) (unhide HVK) (unhide Q1)).only
  have p1 := WrAt.off (unhide HH) (unhide Q1) hk1 (unhide HB1)
  have c1_0 := WrAt.off (unhide HH) (unhide Q1) hk2 (at_front (unhide HA) (unhide HB2) 1 (by decide) _ rfl)
  have lb1 := unhide L1
  have rb1 := unhide HR
  have C1 := hide (WO.u8_any b v1 P1 o.typ x1 (unhide Q1).now (by omega))
  clear lb1 rb1
  go_wp2_with fail
  refine (unhide C1).mono ?_
  rintro e x2 ⟨rfl, v2, q1⟩
  obtain ⟨P2, hP2⟩ : ∃ P, P = P1 ++ b1 o.typ := ⟨_, rfl⟩
  have q1 : Wrote OW x1 b v1 x2 v2 (P1 ++ b1 o.typ) := q1
  rw [← hP2] at q1
  have Q2 := hide ((unhide Q1).trans q1)
  have L2 : Hid (P2.length ≤ bs.length + 2 * 10000) := by
    show _ ≤ _
    rw [hP2, List.length_append]
    have h1 := unhide L1
    have h2 : (b1 o.typ).length ≤ 10000 := by
      unfold b1; rw [be_length]; omega
    omega
  have HP2 := hide hP2
  clear hP2 q1 p1 c1_0 C1 OX1 Q1
  have OX2 : Hid (Only (fun _ => False) w0 x2) := (WO.Mine.wrote (unhide O02) (unhide HUP) (unhide HVK) (unhide Q2)).only
  have p2 := WrAt.off (unhide HH) (unhide Q2) hk1 (unhide HB1)
  have c2_0 := WrAt.off (unhide HH) (unhide Q2) hk2 (at_front (unhide HA) (unhide HB2) 2 (by decide) _ rfl)
  have lb2 := unhide L2
  have rb2 := unhide HR
  have C2 := hide (WO.u8_any b v2 P2 o.alg x2 (unhide Q2).now (by omega))
  clear lb2 rb2
  go_wp2_with fail
  refine (unhide C2).mono ?_
  rintro e x3 ⟨rfl, v3, q2⟩
  obtain ⟨P3, hP3⟩ : ∃ P, P = P2 ++ b1 o.alg := ⟨_, rfl⟩
  have q2 : Wrote OW x2 b v2 x3 v3 (P2 ++ b1 o.alg) := q2
  rw [← hP3] at q2
  have Q3 := hide ((unhide Q2).trans q2)
  have L3 : Hid (P3.length ≤ bs.length + 3 * 10000) := by
    show _ ≤ _
    rw [hP3, List.length_append]
    have h1 := unhide L2
    have h2 : (b1 o.alg).length ≤ 10000 := by
      unfold b1; rw [be_length]; omega
    omega
  have HP3 := hide hP3
  clear hP3 q2 p2 c2_0 C2 OX2 Q2
  have OX3 : Hid (Only (fun _ => False) w0 x3) := (WO.Mine.wrote (unhide O02) (unhide HUP) (unhide HVK) (unhide Q3)).only
  have p3 := WrAt.off (unhide HH) (unhide Q3) hk1 (unhide HB1)
  have c3_0 := WrAt.off (unhide HH) (unhide Q3) hk2 (at_front (unhide HA) (unhide HB2) 3 (by decide) _ rfl)
  have lb3 := unhide L3
  have rb3 := unhide HR
  have C3 := hide (WO.u32_any b v3 P3 o.len x3 (unhide Q3).now (by omega))
  clear lb3 rb3
  go_wp2_with fail
  refine (unhide C3).mono ?_
  rintro e x4 ⟨rfl, v4, q3⟩
  obtain ⟨P4, hP4⟩ : ∃ P, P = P3 ++ b4 o.len := ⟨_, rfl⟩
  have q3 : Wrote OW x3 b v3 x4 v4 (P3 ++ b4 o.len) := q3
  rw [← hP4] at q3
  have Q4 := hide ((unhide Q3).trans q3)
  have L4 : Hid (P4.length ≤ bs.length + 4 * 10000) := by
    show _ ≤ _
    rw [hP4, List.length_append]
    have h1 := unhide L3
    have h2 : (b4 o.len).length ≤ 10000 := by
      unfold b4; rw [be_length]; omega
    omega
  have HP4 := hide hP4
  clear hP4 q3 p3 c3_0 C3 OX3 Q3
  have OX4 : Hid (Only (fun _ => False) w0 x4) := (WO.Mine.wrote (unhide O02) (unhide HUP) (unhide HVK) (unhide Q4)).only
  have p4 := WrAt.off (unhide HH) (unhide Q4) hk1 (unhide HB1)
  have c4_0 := WrAt.off (unhide HH) (unhide Q4) hk2 (at_front (unhide HA) (unhide HB2) 4 (by decide) _ rfl)
  have lb4 := unhide L4
  have rb4 := unhide HR
  have C4 := hide (WO.u32_any b v4 P4 o.mask x4 (unhide Q4).now (by omega))
  clear lb4 rb4
  go_wp2_with fail
  refine (unhide C4).mono ?_
  rintro e x5 ⟨rfl, v5, q4⟩
  obtain ⟨P5, hP5⟩ : ∃ P, P = P4 ++ b4 o.mask := ⟨_, rfl⟩
  have q4 : Wrote OW x4 b v4 x5 v5 (P4 ++ b4 o.mask) := q4
  rw [← hP5] at q4
  have Q5 := hide ((unhide Q4).trans q4)
  have L5 : Hid (P5.length ≤ bs.length + 5 * 10000) := by
    show _ ≤ _
    rw [hP5, List.length_append]
    have h1 := unhide L4
    have h2 : (b4 o.mask).length ≤ 10000 := by
      unfold b4; rw [be_length]; omega
    omega
  have HP5 := hide hP5
  clear hP5 q4 p4 c4_0 C4 OX4 Q4
  have OX5 : Hid (Only (fun _ => False) w0 x5) := (WO.Mine.wrote (unhide O02) (unhide HUP) (unhide HVK) (unhide Q5)).only
  have p5 := WrAt.off (unhide HH) (unhide Q5) hk1 (unhide HB1)
  have c5_0 := WrAt.off (unhide HH) (unhide Q5) hk2 (at_front (unhide HA) (unhide HB2) 5 (by decide) _ rfl)
  rw [unhide HMV] at c5_0
  have lb5 := unhide L5
  have rb5 := unhide HR
  have C5 := hide (WO.short_yes b v5 P5 mv o.mat x5 ((unhide HI).mat.only (unhide OX5) (fun _ _ _ e => e)) (unhide Q5).now (by have := (unhide HS).mat; omega) (by have := (unhide HS).mat; omega) (fun hne k hk => has_sep (unhide HUP) (unhide HVK) hw02 (unhide Q5) ((unhide HI).mat.blk_lt hne k hk)))
  rw [unhide HMV, short_text o.mat (by have := (unhide HS).mat; omega)] at C5
  clear lb5 rb5
  go_wp2_with fail
  refine (unhide C5).mono ?_
  rintro e x6 ⟨rfl, v6, q5⟩
  obtain ⟨P6, hP6⟩ : ∃ P, P = P5 ++ textL o.mat := ⟨_, rfl⟩
  have q5 : Wrote OW x5 b v5 x6 v6 (P5 ++ textL o.mat) := q5
  rw [← hP6] at q5
  have Q6 := hide ((unhide Q5).trans q5)
  have L6 : Hid (P6.length ≤ bs.length + 6 * 10000) := by
    show _ ≤ _
    rw [hP6, List.length_append]
    have h1 := unhide L5
    have h2 : (textL o.mat).length ≤ 10000 := by
      rw [textL_len]; have := (unhide HS).mat; omega
    omega
  have HP6 := hide hP6
  clear hP6 q5 p5 c5_0 C5 OX5 Q5
  have OX6 : Hid (Only (fun _ => False) w0 x6) := (WO.Mine.wrote (unhide O02) (unhide HUP) (unhide HVK) (unhide Q6)).only
  have p6 := WrAt.off (unhide HH) (unhide Q6) hk1 (unhide HB1)
  have c6_0 := WrAt.off (unhide HH) (unhide Q6) hk2 (at_front (unhide HA) (unhide HB2) 6 (by decide) _ rfl)
  have lb6 := unhide L6
  have rb6 := unhide HR
  have C6 := hide (WO.u8_any b v6 P6 o.state x6 (unhide Q6).now (by omega))
  clear lb6 rb6
  go_wp2_with fail
  refine (unhide C6).mono ?_
  rintro e x7 ⟨rfl, v7, q6⟩
  obtain ⟨P7, hP7⟩ : ∃ P, P = P6 ++ b1 o.state := ⟨_, rfl⟩
  have q6 : Wrote OW x6 b v6 x7 v7 (P6 ++ b1 o.state) := q6
  rw [← hP7] at q6
  have Q7 := hide ((unhide Q6).trans q6)
  have L7 : Hid (P7.length ≤ bs.length + 7 * 10000) := by
    show _ ≤ _
    rw [hP7, List.length_append]
    have h1 := unhide L6
    have h2 : (b1 o.state).length ≤ 10000 := by
      unfold b1; rw [be_length]; omega
    omega
  have HP7 := hide hP7
  clear hP7 q6 p6 c6_0 C6 OX6 Q6
  have OX7 : Hid (Only (fun _ => False) w0 x7) := (WO.Mine.wrote (unhide O02) (unhide HUP) (unhide HVK) (unhide Q7)).only
  have p7 := WrAt.off (unhide HH) (unhide Q7) hk1 (unhide HB1)
  have hr := (unhide HB2).range 7 20
  rw [unhide HA, cells_dates o mv nv lv cv (unhide HI).ten] at hr
  have hr : x7.rangeAt k2 7 (o.dates.flatMap dcells) := fun j u hu => WrAt.off (unhide HH) (unhide Q7) hk2 (hr j u hu)
  have hlt7 := unhide L7
  have hr7 := unhide HR
  obtain ⟨ds, hds⟩ : ∃ ds, ds = o.dates := ⟨_, rfl⟩
  have HTEN : Hid (ds.length = 10) := by rw [hds]; exact (unhide HI).ten
  rw [← hds] at hr
  have HDS := hide hds
  have HIX := hide (fun (i : Nat) (d : Bool × Int) (hd : ds[i]? = some d) (W : World) => index_date ds (unhide HTEN) i d hd W)
  obtain ⟨D, hD⟩ : ∃ D, D = (ds.flatMap dcells) := ⟨_, rfl⟩
  have HDL : Hid (D.length = 20) := by show _ = _; rw [hD, dcells_len, unhide HTEN]
  rw [← hD] at hr HIX
  have HP := p7
  clear hds hD p7
  go_wp2_with (refine wpList_load_mid rfl 28 (.tmp 40) rfl k2 7 rfl D _ hr Tryd.underDates rfl (by rw [Tryd.sizeDates]; simp [unhide HDL]) ?_)
  clear hr HP
  go_loopw [42] (fun i wr => ∃ k : Nat, k ≤ 10 ∧ i = .int .i64 k ∧ Hid (∃ v2, Wrote OW w2 b v wr v2 (P7 ++ (ds.take k).flatMap dateL))) (fun i _ => 10 - (intOf i).toNat)
  case atStart => exact ⟨0, Nat.zero_le _, rfl, ⟨v7, by rw [List.take_zero, List.flatMap_nil, List.append_nil]; exact unhide Q7⟩⟩
  case round =>
  rename World => wr
  obtain ⟨k, hk, rfl, hq0⟩ := hrel
  obtain ⟨vr, hq1⟩ := unhide hq0
  have hq := hide hq1
  clear hq0 hq1
  by_cases hlt : k < 10
  case pos =>
    have hku : k < ds.length := by have := unhide HTEN; omega
    obtain ⟨d, hd⟩ : ∃ d, d = ds[k] := ⟨_, rfl⟩
    have hd2 : ds[k]? = some d := by rw [List.getElem?_eq_getElem hku, hd]
    have hix := unhide HIX k d hd2 wr
    have HF : Hid ((ds.take (k + 1)).flatMap dateL = (ds.take k).flatMap dateL ++ dateL d) := flat_take dateL ds k d hd2
    unfold dval at hix
    obtain ⟨wz, bz, ez, ebz, hz, oz, hsz⟩ := boxed wr #[.bool d.1, .int .i64 d.2] 27
    have z0 := hz.cell 0 (.bool d.1) rfl
    have z1 := hz.cell 1 (.int .i64 d.2) rfl
    have HWZ := hide (wrote_same (unhide hq).now oz)
    have pw := oz.cell (WrAt.off (unhide HH) (unhide hq) hk1 (unhide HB1)) (fun e => e)
    have hle := flat_le dateL 9 ds (fun x _ => dateL_len x) k
    rw [unhide HTEN] at hle
    have HC := hide (wdate_any b vr _ d wz (unhide HWZ).now (by rw [List.length_append]; omega))
    have hkz : (k : Int) < 10 := by omega
    clear hz oz hsz hd hd2 hle hku
    unfold wv at HC
    go_upto_region 11 with fail
    rw [← ez, ← ebz]
    clear ez ebz hix
    go_wp2_with fail
    refine (unhide HC).mono ?_
    rintro e xz ⟨rfl, v3, q3⟩
    have Q3z := hide ((unhide hq).trans ((unhide HWZ).trans q3))
    clear q3
    go_wp2
    go_roundw
    case rel =>
      refine ⟨k + 1, by omega, by go_num, v3, ?_⟩
      have := unhide Q3z
      rw [unhide HF, ← List.append_assoc]
      exact this
    case measure => simp [intOf]; omega
  case neg =>
  obtain rfl : k = 10 := by omega
  obtain ⟨P8, hP8⟩ : ∃ P, P = P7 ++ o.dates.flatMap dateL := ⟨_, rfl⟩
  have L8 : Hid (P8.length ≤ bs.length + 8 * 10000) := by
    show _ ≤ _
    rw [hP8, List.length_append]
    have h1 := unhide L7
    have h2 : (o.dates.flatMap dateL).length ≤ 10000 := by
      have := flat_le dateL 9 o.dates (fun x _ => dateL_len x) o.dates.length; rw [List.take_of_length_le (Nat.le_refl _), (unhide HI).ten] at this; omega
    omega
  have Q8 : Hid (Wrote OW w2 b v wr vr P8) := by
    have := unhide hq
    rw [List.take_of_length_le (by rw [unhide HTEN]; omega), unhide HDS, ← hP8] at this
    exact this
  obtain ⟨x8, hx8⟩ : ∃ x, x = wr := ⟨_, rfl⟩
  obtain ⟨v8, hv8⟩ : ∃ x, x = vr := ⟨_, rfl⟩
  rw [← hx8, ← hv8] at Q8
  rw [← hx8]
  have HP8 := hide hP8
  clear hP8 hq hlt hk hx8 hv8 HIX HDL Q7
  have OX8 : Hid (Only (fun _ => False) w0 x8) := (WO.Mine.wrote (unhide O02) (unhide HUP) (unhide HVK) (unhide Q8)).only
  have p8 := WrAt.off (unhide HH) (unhide Q8) hk1 (unhide HB1)
  have c8_0 := WrAt.off (unhide HH) (unhide Q8) hk2 (at_back (unhide HA) (unhide HB2) (unhide HI).ten 0 _ rfl)
  have lb8 := unhide L8
  have rb8 := unhide HR
  have C8 := hide (WO.u8_any b v8 P8 o.reason x8 (unhide Q8).now (by omega))
  clear lb8 rb8
  go_wp2_with fail
  refine (unhide C8).mono ?_
  rintro e x9 ⟨rfl, v9, q8⟩
  obtain ⟨P9, hP9⟩ : ∃ P, P = P8 ++ b1 o.reason := ⟨_, rfl⟩
  have q8 : Wrote OW x8 b v8 x9 v9 (P8 ++ b1 o.reason) := q8
  rw [← hP9] at q8
  have Q9 := hide ((unhide Q8).trans q8)
  have L9 : Hid (P9.length ≤ bs.length + 9 * 10000) := by
    show _ ≤ _
    rw [hP9, List.length_append]
    have h1 := unhide L8
    have h2 : (b1 o.reason).length ≤ 10000 := by
      unfold b1; rw [be_length]; omega
    omega
  have HP9 := hide hP9
  clear hP9 q8 p8 c8_0 C8 OX8 Q8
  have OX9 : Hid (Only (fun _ => False) w0 x9) := (WO.Mine.wrote (unhide O02) (unhide HUP) (unhide HVK) (unhide Q9)).only
  have p9 := WrAt.off (unhide HH) (unhide Q9) hk1 (unhide HB1)
  have c9_0 := WrAt.off (unhide HH) (unhide Q9) hk2 (at_back (unhide HA) (unhide HB2) (unhide HI).ten 1 _ rfl)
  have lb9 := unhide L9
  have rb9 := unhide HR
  have C9 := hide (wtext_any b v9 P9 o.msg x9 (unhide Q9).now (by have := (unhide HS).msg; omega) (by have := (unhide HS).msg; omega))
  unfold wv at C9
  clear lb9 rb9
  go_wp2_with fail
  refine (unhide C9).mono ?_
  rintro e x10 ⟨rfl, v10, q9⟩
  obtain ⟨P10, hP10⟩ : ∃ P, P = P9 ++ textL o.msg := ⟨_, rfl⟩
  have q9 : Wrote OW x9 b v9 x10 v10 (P9 ++ textL o.msg) := q9
  rw [← hP10] at q9
  have Q10 := hide ((unhide Q9).trans q9)
  have L10 : Hid (P10.length ≤ bs.length + 10 * 10000) := by
    show _ ≤ _
    rw [hP10, List.length_append]
    have h1 := unhide L9
    have h2 : (textL o.msg).length ≤ 10000 := by
      rw [textL_len]; have := (unhide HS).msg; omega
    omega
  have HP10 := hide hP10
  clear hP10 q9 p9 c9_0 C9 OX9 Q9
  have OX10 : Hid (Only (fun _ => False) w0 x10) := (WO.Mine.wrote (unhide O02) (unhide HUP) (unhide HVK) (unhide Q10)).only
  have p10 := WrAt.off (unhide HH) (unhide Q10) hk1 (unhide HB1)
  have c10_0 := WrAt.off (unhide HH) (unhide Q10) hk2 (at_back (unhide HA) (unhide HB2) (unhide HI).ten 2 _ rfl)
  rw [unhide HNV] at c10_0
  have lb10 := unhide L10
  have rb10 := unhide HR
  have C10 := hide (all_s b v10 P10 o.names nv x10 (unhide Q10).now ((unhide HI).names.same (unhide OX10)) (fun hne k hk => has_sep (unhide HUP) (unhide HVK) hw02 (unhide Q10) (hasF_blk (unhide HI).names hne k hk)) (by have := (unhide HS).names.1; omega) (unhide HS).names.2 (by omega))
  rw [unhide HNV] at C10
  unfold wv at C10
  clear lb10 rb10
  go_wp2_with fail
  refine (unhide C10).mono ?_
  rintro e x11 ⟨rfl, v11, q10⟩
  obtain ⟨P11, hP11⟩ : ∃ P, P = P10 ++ allL textL o.names := ⟨_, rfl⟩
  have q10 : Wrote OW x10 b v10 x11 v11 (P10 ++ allL textL o.names) := q10
  rw [← hP11] at q10
  have Q11 := hide ((unhide Q10).trans q10)
  have L11 : Hid (P11.length ≤ bs.length + 11 * 10000) := by
    show _ ≤ _
    rw [hP11, List.length_append]
    have h1 := unhide L10
    have h2 : (allL textL o.names).length ≤ 10000 := by
      exact Nat.le_trans (allL_len textL o.names (unhide HS).names.1 (fun x hx => by rw [textL_len]; have := (unhide HS).names.2 x hx; omega)) (by omega)
    omega
  have HP11 := hide hP11
  clear hP11 q10 p10 c10_0 C10 OX10 Q10
  have OX11 : Hid (Only (fun _ => False) w0 x11) := (WO.Mine.wrote (unhide O02) (unhide HUP) (unhide HVK) (unhide Q11)).only
  have p11 := WrAt.off (unhide HH) (unhide Q11) hk1 (unhide HB1)
  have c11_0 := WrAt.off (unhide HH) (unhide Q11) hk2 (at_back (unhide HA) (unhide HB2) (unhide HI).ten 3 _ rfl)
  rw [unhide HLV] at c11_0
  have lb11 := unhide L11
  have rb11 := unhide HR
  have C11 := hide (all_k b v11 P11 o.links lv x11 (unhide Q11).now ((unhide HI).links.same (unhide OX11)) (fun hne k hk => has_sep (unhide HUP) (unhide HVK) hw02 (unhide Q11) (hasF_blk (unhide HI).links hne k hk)) (by have := (unhide HS).links.1; omega) (unhide HS).links.2 (by omega))
  rw [unhide HLV] at C11
  unfold wv at C11
  clear lb11 rb11
  go_wp2_with fail
  refine (unhide C11).mono ?_
  rintro e x12 ⟨rfl, v12, q11⟩
  obtain ⟨P12, hP12⟩ : ∃ P, P = P11 ++ allL linkL o.links := ⟨_, rfl⟩
  have q11 : Wrote OW x11 b v11 x12 v12 (P11 ++ allL linkL o.links) := q11
  rw [← hP12] at q11
  have Q12 := hide ((unhide Q11).trans q11)
  have L12 : Hid (P12.length ≤ bs.length + 12 * 10000) := by
    show _ ≤ _
    rw [hP12, List.length_append]
    have h1 := unhide L11
    have h2 : (allL linkL o.links).length ≤ 10000 := by
      exact Nat.le_trans (allL_len linkL o.links (unhide HS).links.1 (fun x hx => by unfold linkL b1; rw [List.length_append, be_length, textL_len]; have := (unhide HS).links.2 x hx; omega)) (by omega)
    omega
  have HP12 := hide hP12
  clear hP12 q11 p11 c11_0 C11 OX11 Q11
  have OX12 : Hid (Only (fun _ => False) w0 x12) := (WO.Mine.wrote (unhide O02) (unhide HUP) (unhide HVK) (unhide Q12)).only
  have p12 := WrAt.off (unhide HH) (unhide Q12) hk1 (unhide HB1)
  have c12_0 := WrAt.off (unhide HH) (unhide Q12) hk2 (at_back (unhide HA) (unhide HB2) (unhide HI).ten 4 _ rfl)
  rw [unhide HCV] at c12_0
  have lb12 := unhide L12
  have rb12 := unhide HR
  have C12 := hide (all_c b v12 P12 o.custom cv x12 (unhide Q12).now ((unhide HI).custom.same (unhide OX12)) (fun hne k hk => has_sep (unhide HUP) (unhide HVK) hw02 (unhide Q12) (hasF_blk (unhide HI).custom hne k hk)) (by have := (unhide HS).custom.1; omega) (unhide HS).custom.2 (by omega))
  rw [unhide HCV] at C12
  unfold wv at C12
  clear lb12 rb12
  go_wp2_with fail
  refine (unhide C12).mono ?_
  rintro e x13 ⟨rfl, v13, q12⟩
  obtain ⟨P13, hP13⟩ : ∃ P, P = P12 ++ allL custL o.custom := ⟨_, rfl⟩
  have q12 : Wrote OW x12 b v12 x13 v13 (P12 ++ allL custL o.custom) := q12
  rw [← hP13] at q12
  have Q13 := hide ((unhide Q12).trans q12)
  have L13 : Hid (P13.length ≤ bs.length + 13 * 10000) := by
    show _ ≤ _
    rw [hP13, List.length_append]
    have h1 := unhide L12
    have h2 : (allL custL o.custom).length ≤ 10000 := by
      exact Nat.le_trans (allL_len custL o.custom (unhide HS).custom.1 (fun x hx => by unfold custL; rw [List.length_append, textL_len, textL_len]; have := (unhide HS).custom.2 x hx; omega)) (by omega)
    omega
  have HP13 := hide hP13
  clear hP13 q12 p12 c12_0 C12 OX12 Q12
  have OX13 : Hid (Only (fun _ => False) w0 x13) := (WO.Mine.wrote (unhide O02) (unhide HUP) (unhide HVK) (unhide Q13)).only
  have p13 := WrAt.off (unhide HH) (unhide Q13) hk1 (unhide HB1)
  have c13_0 := WrAt.off (unhide HH) (unhide Q13) hk2 (at_back (unhide HA) (unhide HB2) (unhide HI).ten 5 _ rfl)
  have c13_1 := WrAt.off (unhide HH) (unhide Q13) hk2 (at_back (unhide HA) (unhide HB2) (unhide HI).ten 6 _ rfl)
  have c13_2 := WrAt.off (unhide HH) (unhide Q13) hk2 (at_back (unhide HA) (unhide HB2) (unhide HI).ten 7 _ rfl)
  have c13_3 := WrAt.off (unhide HH) (unhide Q13) hk2 (at_back (unhide HA) (unhide HB2) (unhide HI).ten 8 _ rfl)
  have lb13 := unhide L13
  have rb13 := unhide HR
  have C13 := hide (wlimits_any b v13 P13 o x13 (unhide Q13).now (by omega))
  unfold wv at C13
  clear lb13 rb13
  go_wp2_with fail
  refine (unhide C13).mono ?_
  rintro e x14 ⟨rfl, v14, q13⟩
  obtain ⟨P14, hP14⟩ : ∃ P, P = P13 ++ limL o := ⟨_, rfl⟩
  have q13 : Wrote OW x13 b v13 x14 v14 (P13 ++ limL o) := q13
  rw [← hP14] at q13
  have Q14 := hide ((unhide Q13).trans q13)
  have L14 : Hid (P14.length ≤ bs.length + 14 * 10000) := by
    show _ ≤ _
    rw [hP14, List.length_append]
    have h1 := unhide L13
    have h2 : (limL o).length ≤ 10000 := by
      have := limL_len o; omega
    omega
  have HP14 := hide hP14
  clear hP14 q13 p13 c13_0 c13_1 c13_2 c13_3 C13 OX13 Q13
  have OX14 : Hid (Only (fun _ => False) w0 x14) := (WO.Mine.wrote (unhide O02) (unhide HUP) (unhide HVK) (unhide Q14)).only
  have p14 := WrAt.off (unhide HH) (unhide Q14) hk1 (unhide HB1)
  have c14_0 := WrAt.off (unhide HH) (unhide Q14) hk2 (at_back (unhide HA) (unhide HB2) (unhide HI).ten 9 _ rfl)
  have lb14 := unhide L14
  have rb14 := unhide HR
  have C14 := hide (wflag_any b v14 P14 o.arch x14 (unhide Q14).now (by omega))
  unfold wv at C14
  clear lb14 rb14
  go_wp2_with fail
  refine (unhide C14).mono ?_
  rintro e x15 ⟨rfl, v15, q14⟩
  obtain ⟨P15, hP15⟩ : ∃ P, P = P14 ++ flagL o.arch := ⟨_, rfl⟩
  have q14 : Wrote OW x14 b v14 x15 v15 (P14 ++ flagL o.arch) := q14
  rw [← hP15] at q14
  have Q15 := hide ((unhide Q14).trans q14)
  have L15 : Hid (P15.length ≤ bs.length + 15 * 10000) := by
    show _ ≤ _
    rw [hP15, List.length_append]
    have h1 := unhide L14
    have h2 : (flagL o.arch).length ≤ 10000 := by
      unfold flagL b1; rw [be_length]; omega
    omega
  have HP15 := hide hP15
  clear hP15 q14 p14 c14_0 C14 OX14 Q14
  go_wp2
  go_end0
  refine ⟨rfl, v15, ?_⟩
  have hfin : P15 = bs ++ lay o := by
    rw [unhide HP15, unhide HP14, unhide HP13, unhide HP12, unhide HP11, unhide HP10, unhide HP9, unhide HP8, unhide HP7, unhide HP6, unhide HP5, unhide HP4, unhide HP3, unhide HP2, unhide HP1, unhide HP0]
    unfold lay
    simp only [List.append_assoc]
  rw [← hfin]
  exact (unhide QW).trans (unhide Q15)
end Ob
end Go.Proofs.YtlcnckmbimmpjaaDoor
