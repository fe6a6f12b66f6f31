/-
  object: the parts that are laid.
-/
import Derived.Test.YtlcnckmbimmpjaaDoorObMem
import Derived.Test.YtlcnckmbimmpjaaDoorStr
import Derived.Test.YtlcnckmbimmpjaaDoorCallsO
import Derived.Laws.IdiomStrings
namespace Go.Proofs.YtlcnckmbimmpjaaDoor
open Go.RowKit
set_option linter.unusedSimpArgs false
set_option linter.unusedVariables false
namespace Ob

/-- '[]byte(k)' of a string -/
theorem bytes_of (k : List UInt8) (hk : k.length ≤ maxLen) (w : World) : ∃ ao cap w', (convert 9 22 (.string (str k))).run Tryd.prog w = .ok (.slice ao k.length cap) w' ∧ Has w' (.slice ao k.length cap) k ∧ Only (fun _ => False) w w' ∧ (∀ j, blk (.slice ao k.length cap) = some j → w.heap.size ≤ j) := by
  have h := run_bytes_of_string (P := Tryd.prog) w 9 22 5 ⟨k.toArray⟩ Tryd.underlying9 Tryd.underlying22 Tryd.underlying5
  have e : ByteArray.size ⟨k.toArray⟩ = k.length := rfl
  rw [e] at h
  have hge := grownCap_ge w k.length 0 5
  have hle := grownCap_le_maxLen w k.length 0 5 hk
  generalize grownCap w k.length 0 5 = cap at *
  refine ⟨_, _, _, h, Or.inr ⟨_, cap, rfl, fun _ => rfl, hge, hle, fun _ => by simp, fun j hj => ?_⟩, ((Only.refl _ w).drew).alloc _, fun j hj => ?_⟩
  · rw [Nat.zero_add]
    have hc := World.cell?_alloc_mark w.drew (bytesRow ⟨k.toArray⟩ cap) 5 ((bytesRow ⟨k.toArray⟩ cap).size, (bytesRow ⟨k.toArray⟩ cap).size + 1) j
    rw [show w.drew.heap.size = w.heap.size from rfl] at hc
    rw [hc, bytesRow_at _ _ _ (by simpa using hj)]
    simp [bv]
  · simp only [blk, Option.map_some, Option.some.injEq] at hj
    omega

/-- a writer's value -/
def wv (b : Nat) : Value := .agg #[.pointer (some ⟨b, 0, none⟩)]
abbrev OW := 99
/-- what a call that lays 'add' leaves -/
def Puts (w : World) (b : Nat) (v : Value) (bs add : List UInt8) (e : Ending) (w' : World) : Prop := e = .returned (.tuple #[]) ∧ ∃ v', Wrote OW w b v w' v' (bs ++ add)

/-- a world further on, but for new blocks: the writer stands -/
theorem wrote_same {w w1 : World} {b : Nat} {v : Value} {bs : List UInt8} (h : WrAt OW w b v bs) (o : Only (fun _ => False) w w1) : Wrote OW w b v w1 v bs :=
  ⟨h.only o (fun e => e) (fun _ _ e => e), o.mono (fun _ _ e => e.elim), fun _ hk => Or.inl hk⟩
/-- a block that was made behind the writer stays as it was -/
theorem WrAt.off {w w1 w2 : World} {b : Nat} {v v2 : Value} {bs cs : List UInt8} (h : WrAt OW w b v bs) (q : Wrote OW w1 b v w2 v2 cs) {k i : Nat} (hk : w.heap.size ≤ k) {u : Value} (hc : w1.cell? ⟨k, i, none⟩ = some u) : w2.cell? ⟨k, i, none⟩ = some u :=
  q.only.cell hc (fun e => by
    have h1 := lt_of_block h.blk
    rcases e with e | e
    · exact absurd e (by show k ≠ b; omega)
    · have := (h.own.lt k e).2; omega)

set_option maxRecDepth 100000 in
theorem wflag_any (b : Nat) (v : Value) (bs : List UInt8) (x : Bool) (w : World) (h : WrAt OW w b v bs) (hr : bs.length + 9 ≤ 140737488355328) :
    Calls Tryd.prog 66 #[wv b, .bool x] w (Puts w b v bs (flagL x)) := by
  unfold wv
  obtain ⟨w1, k1, e1, ek1, hb1, o1, hs1⟩ := boxed w #[.pointer (some ⟨b, 0, none⟩)] 60
  have p0 := hb1.cell 0 _ rfl
  have W1 := hide (wrote_same h o1)
  have H1 := hide (WO.u8_any b v bs (if x then 1 else 0) w1 (unhide W1).now hr)
  clear h hb1 o1 hs1 hr
  cases x
  all_goals
    go_enter Tryd.func66, Tryd.ntmps66
    go_upto_region 1 with fail
    rw [← e1, ← ek1]
    clear e1 ek1
    go_wp2_with fail
    refine (unhide H1).mono ?_
    rintro e x1 ⟨rfl, v1, q1⟩
    have Q1 := hide ((unhide W1).trans q1)
    clear q1
    go_wp2
    go_end0
    exact ⟨rfl, _, unhide Q1⟩

theorem short_text (s : List UInt8) (h : s.length ≤ 65535) : WO.short s = textL s := by
  unfold WO.short textL toU64
  congr 2
  rw [IntKind.wrap_u64]
  omega

set_option maxRecDepth 100000 in
theorem wtext_any (b : Nat) (v : Value) (bs : List UInt8) (s : List UInt8) (w : World) (h : WrAt OW w b v bs) (hs : s.length ≤ 65535) (hr : bs.length + s.length + 9 ≤ 140737488355328) :
    Calls Tryd.prog 55 #[wv b, .string (str s)] w (Puts w b v bs (textL s)) := by
  unfold wv
  obtain ⟨w1, k1, e1, ek1, hb1, o1, hs1⟩ := boxed w #[.pointer (some ⟨b, 0, none⟩)] 60
  have p0 := hb1.cell 0 _ rfl
  obtain ⟨ao, cap, w2, hcv, hh, o2, hn⟩ := bytes_of s (by unfold maxLen; omega) w1
  have W2 := hide (wrote_same h (o1.trans o2 (fun _ _ e => e)))
  have H1 := hide (WO.short_yes b v bs _ s w2 hh (unhide W2).now hr hs (fun _ k hk => by
    have h1 := hn k hk
    have h2 := lt_of_block h.blk
    refine ⟨by omega, fun e => ?_⟩
    have := (h.own.lt k e).2
    omega))
  rw [short_text s hs] at H1
  clear h hb1 o1 hs1 hr hh o2 hn hs
  generalize str s = S at *
  generalize s.length = L at *
  go_enter Tryd.func55, Tryd.ntmps55
  go_upto_region 1 with fail
  rw [← e1, ← ek1]
  clear e1 ek1
  go_wp2_with fail
  refine (unhide H1).mono ?_
  rintro e x1 ⟨rfl, v1, q1⟩
  have Q1 := hide ((unhide W2).trans q1)
  clear q1
  go_wp2
  go_end0
  exact ⟨rfl, _, unhide Q1⟩

theorem u64_conv (n : Int) : IntKind.u64.wrap n = (toU64 n : Int) := by unfold toU64; rw [IntKind.wrap_u64]; omega

set_option maxRecDepth 100000 in
theorem wdate_any (b : Nat) (v : Value) (bs : List UInt8) (d : Bool × Int) (w : World) (h : WrAt OW w b v bs) (hr : bs.length + 10 ≤ 140737488355328) :
    Calls Tryd.prog 59 #[wv b, .agg #[.bool d.1, .int .i64 d.2]] w (Puts w b v bs (dateL d)) := by
  obtain ⟨x, n⟩ := d
  obtain ⟨w1, k1, e1, ek1, hb1, o1, hs1⟩ := boxed w #[.pointer (some ⟨b, 0, none⟩)] 60
  obtain ⟨w2, k2, e2, ek2, hb2, o2, hs2⟩ := boxed w1 #[.bool x, .int .i64 n] 27
  have p0 := (hb1.same o2).cell 0 _ rfl
  have d0 := hb2.cell 0 _ rfl
  have d1 := hb2.cell 1 _ rfl
  have W1 := hide (wrote_same h (o1.trans o2 (fun _ _ e => e)))
  have H1 := hide (wflag_any b v bs x w2 (unhide W1).now (by omega))
  have hk1 : w.heap.size ≤ k1 := by omega
  have hk2 : w.heap.size ≤ k2 := by omega
  have HE2 := hide e2
  have HEK2 : Hid (k2 = k1 + 1) := by show _ = _; omega
  have hfl := fun x => be_length 1 (toU64 (if x = true then 1 else 0))
  have HC := u64_conv n
  have HU := u64_conv n
  have HLT : toU64 n < 18446744073709551616 := WO.u64_lt n
  have HR := hide hr
  clear hb1 hb2 o1 o2 hs1 hs2 hr e2 ek2
  have HH := hide h
  clear h
  unfold wv at *
  cases x
  · go_enter Tryd.func59, Tryd.ntmps59
    go_upto_region 1 with fail
    rw [← e1, ← ek1, ← unhide HE2, ← unhide HEK2]
    clear e1 ek1 HE2 HEK2 hfl HC HU
    go_wp2_with fail
    refine (unhide H1).mono ?_
    rintro e x1 ⟨rfl, v1, q1⟩
    have Q1 := hide ((unhide W1).trans q1)
    have c0 := WrAt.off (unhide HH) q1 hk2 d0
    clear q1 d0 d1 p0
    go_wp2
    go_end0
    refine ⟨rfl, v1, ?_⟩
    have := unhide Q1
    unfold dateL
    simpa using this
  · go_enter Tryd.func59, Tryd.ntmps59
    go_upto_region 1 with fail
    rw [← e1, ← ek1, ← unhide HE2, ← unhide HEK2]
    clear e1 ek1 HE2 HEK2 HU
    go_wp2_with fail
    refine (unhide H1).mono ?_
    rintro e x1 ⟨rfl, v1, q1⟩
    have Q1 := hide ((unhide W1).trans q1)
    have c0 := WrAt.off (unhide HH) q1 hk2 d0
    have c1 := WrAt.off (unhide HH) q1 hk2 d1
    have c2 := WrAt.off (unhide HH) q1 hk1 p0
    have H2 := hide (WO.u64_any b v1 _ (toU64 n) x1 HLT q1.now (by rw [List.length_append]; unfold flagL b1; rw [be_length]; have := unhide HR; omega))
    clear q1 d0 d1 p0 hfl HLT
    rw [← HC] at H2
    clear HC
    go_wp2_with fail
    refine (unhide H2).mono ?_
    rintro e x2 ⟨rfl, v2, q2⟩
    have Q2 := hide ((unhide Q1).trans q2)
    clear q2
    go_wp2
    go_end0
    refine ⟨rfl, v2, ?_⟩
    have := unhide Q2
    unfold dateL b8
    rw [if_pos rfl, ← List.append_assoc]
    exact this

set_option maxRecDepth 100000 in
theorem wlink_any (b : Nat) (v : Value) (bs : List UInt8) (k : Int × List UInt8) (w : World) (h : WrAt OW w b v bs) (hs : k.2.length ≤ 65535) (hr : bs.length + k.2.length + 20 ≤ 140737488355328) :
    Calls Tryd.prog 62 #[wv b, .agg #[.int .i64 k.1, .string (str k.2)]] w (Puts w b v bs (linkL k)) := by
  obtain ⟨n, s⟩ := k
  obtain ⟨w1, k1, e1, ek1, hb1, o1, hs1⟩ := boxed w #[.pointer (some ⟨b, 0, none⟩)] 60
  obtain ⟨w2, k2, e2, ek2, hb2, o2, hs2⟩ := boxed w1 #[.int .i64 n, .string (str s)] 51
  have p0 := (hb1.same o2).cell 0 _ rfl
  have d0 := hb2.cell 0 _ rfl
  have d1 := hb2.cell 1 _ rfl
  have W1 := hide (wrote_same h (o1.trans o2 (fun _ _ e => e)))
  have H1 := hide (WO.u8_any b v bs n w2 (unhide W1).now (by omega))
  have HT := hide (fun v1 x1 (q : WrAt OW x1 b v1 (bs ++ b1 n)) => wtext_any b v1 (bs ++ b1 n) s x1 q hs (by rw [List.length_append]; unfold b1; rw [be_length]; simp only at hr; omega))
  have hk1 : w.heap.size ≤ k1 := by omega
  have hk2 : w.heap.size ≤ k2 := by omega
  have HE2 := hide e2
  have HEK2 : Hid (k2 = k1 + 1) := by show _ = _; omega
  have HH := hide h
  clear hb1 hb2 o1 o2 hs1 hs2 hr e2 ek2 hs h
  unfold wv at *
  generalize str s = S at *
  go_enter Tryd.func62, Tryd.ntmps62
  go_upto_region 1 with fail
  rw [← e1, ← ek1, ← unhide HE2, ← unhide HEK2]
  clear e1 ek1 HE2 HEK2
  go_wp2_with fail
  refine (unhide H1).mono ?_
  rintro e x1 ⟨rfl, v1, q1⟩
  have Q1 := hide ((unhide W1).trans q1)
  have c1 := WrAt.off (unhide HH) q1 hk2 d1
  have c2 := WrAt.off (unhide HH) q1 hk1 p0
  have H2 := hide (unhide HT v1 x1 q1.now)
  clear q1 d0 d1 p0 H1 HT
  go_wp2_with fail
  refine (unhide H2).mono ?_
  rintro e x2 ⟨rfl, v2, q2⟩
  have Q2 := hide ((unhide Q1).trans q2)
  clear q2
  go_wp2
  go_end0
  refine ⟨rfl, v2, ?_⟩
  have := unhide Q2
  unfold linkL
  rw [← List.append_assoc]
  exact this

set_option maxRecDepth 100000 in
theorem wcustom_any (b : Nat) (v : Value) (bs : List UInt8) (k : List UInt8 × List UInt8) (w : World) (h : WrAt OW w b v bs) (hs : k.1.length ≤ 65535 ∧ k.2.length ≤ 65535) (hr : bs.length + k.1.length + k.2.length + 20 ≤ 140737488355328) :
    Calls Tryd.prog 64 #[wv b, .agg #[.string (str k.1), .string (str k.2)]] w (Puts w b v bs (custL k)) := by
  obtain ⟨n, s⟩ := k
  obtain ⟨w1, k1, e1, ek1, hb1, o1, hs1⟩ := boxed w #[.pointer (some ⟨b, 0, none⟩)] 60
  obtain ⟨w2, k2, e2, ek2, hb2, o2, hs2⟩ := boxed w1 #[.string (str n), .string (str s)] 53
  have p0 := (hb1.same o2).cell 0 _ rfl
  have d0 := hb2.cell 0 _ rfl
  have d1 := hb2.cell 1 _ rfl
  have W1 := hide (wrote_same h (o1.trans o2 (fun _ _ e => e)))
  have H1 := hide (wtext_any b v bs n w2 (unhide W1).now hs.1 (by simp only at hr; omega))
  have HT := hide (fun v1 x1 (q : WrAt OW x1 b v1 (bs ++ textL n)) => wtext_any b v1 (bs ++ textL n) s x1 q hs.2 (by rw [List.length_append]; unfold textL; rw [List.length_append, be_length]; simp only at hr; omega))
  have hk1 : w.heap.size ≤ k1 := by omega
  have hk2 : w.heap.size ≤ k2 := by omega
  have HE2 := hide e2
  have HEK2 : Hid (k2 = k1 + 1) := by show _ = _; omega
  have HH := hide h
  clear hb1 hb2 o1 o2 hs1 hs2 hr e2 ek2 hs h
  unfold wv at *
  generalize str s = S at *
  generalize str n = N at *
  go_enter Tryd.func64, Tryd.ntmps64
  go_upto_region 1 with fail
  rw [← e1, ← ek1, ← unhide HE2, ← unhide HEK2]
  clear e1 ek1 HE2 HEK2
  go_wp2_with fail
  refine (unhide H1).mono ?_
  rintro e x1 ⟨rfl, v1, q1⟩
  have Q1 := hide ((unhide W1).trans q1)
  have c1 := WrAt.off (unhide HH) q1 hk2 d1
  have c2 := WrAt.off (unhide HH) q1 hk1 p0
  have H2 := hide (unhide HT v1 x1 q1.now)
  clear q1 d0 d1 p0 H1 HT
  go_wp2_with fail
  refine (unhide H2).mono ?_
  rintro e x2 ⟨rfl, v2, q2⟩
  have Q2 := hide ((unhide Q1).trans q2)
  clear q2
  go_wp2
  go_end0
  refine ⟨rfl, v2, ?_⟩
  have := unhide Q2
  unfold custL
  rw [← List.append_assoc]
  exact this

set_option maxRecDepth 100000 in
theorem wlimits_any (b : Nat) (v : Value) (bs : List UInt8) (o : Ob) (w : World) (h : WrAt OW w b v bs) (hr : bs.length + 40 ≤ 140737488355328) :
    Calls Tryd.prog 65 #[wv b, .agg #[.bool o.lh, .int .i64 o.lt, .int .i64 o.lc, .int .i64 o.lu]] w (Puts w b v bs (limL o)) := by
  have HL : Hid (limL o = flagL o.lh ++ if o.lh then b8 o.lt ++ (b8 o.lc ++ b1 o.lu) else []) := rfl
  rw [unhide HL]
  clear HL
  generalize o.lh = x
  generalize o.lt = t
  generalize o.lc = c
  generalize o.lu = u
  obtain ⟨w1, k1, e1, ek1, hb1, o1, hs1⟩ := boxed w #[.pointer (some ⟨b, 0, none⟩)] 60
  obtain ⟨w2, k2, e2, ek2, hb2, o2, hs2⟩ := boxed w1 #[.bool x, .int .i64 t, .int .i64 c, .int .i64 u] 33
  have p0 := (hb1.same o2).cell 0 _ rfl
  have d0 := hb2.cell 0 _ rfl
  have d1 := hb2.cell 1 _ rfl
  have d2 := hb2.cell 2 _ rfl
  have d3 := hb2.cell 3 _ rfl
  have W1 := hide (wrote_same h (o1.trans o2 (fun _ _ e => e)))
  have H1 := hide (wflag_any b v bs x w2 (unhide W1).now (by omega))
  have hk1 : w.heap.size ≤ k1 := by omega
  have hk2 : w.heap.size ≤ k2 := by omega
  have HE2 := hide e2
  have HEK2 : Hid (k2 = k1 + 1) := by show _ = _; omega
  have hfl : (flagL x).length = 1 := by unfold flagL b1; rw [be_length]
  have HX1 := u64_conv t
  have HX2 := u64_conv c
  have HLT := hide (WO.u64_lt t)
  have HLC := hide (WO.u64_lt c)
  have HR := hide hr
  have HFL := hide hfl
  have HH := hide h
  clear hb1 hb2 o1 o2 hs1 hs2 hr e2 ek2 h hfl
  unfold wv at *
  cases x
  · go_enter Tryd.func65, Tryd.ntmps65
    go_upto_region 1 with fail
    rw [← e1, ← ek1, ← unhide HE2, ← unhide HEK2]
    clear e1 ek1 HE2 HEK2 HX1 HX2
    go_wp2_with fail
    refine (unhide H1).mono ?_
    rintro e x1 ⟨rfl, v1, q1⟩
    have Q1 := hide ((unhide W1).trans q1)
    have c0 := WrAt.off (unhide HH) q1 hk2 d0
    clear q1 d0 d1 d2 d3 p0
    go_wp2
    go_end0
    refine ⟨rfl, v1, ?_⟩
    have := unhide Q1
    simpa using this
  · go_enter Tryd.func65, Tryd.ntmps65
    go_upto_region 1 with fail
    rw [← e1, ← ek1, ← unhide HE2, ← unhide HEK2]
    clear e1 ek1 HE2 HEK2
    go_wp2_with fail
    refine (unhide H1).mono ?_
    rintro e x1 ⟨rfl, v1, q1⟩
    have Q1 := hide ((unhide W1).trans q1)
    have c0 := WrAt.off (unhide HH) q1 hk2 d0
    have c1 := WrAt.off (unhide HH) q1 hk2 d1
    have c4 := WrAt.off (unhide HH) q1 hk1 p0
    have HQ := hide q1
    have H2 := hide (WO.u64_any b v1 _ (toU64 t) x1 (unhide HLT) q1.now (by rw [List.length_append, unhide HFL]; have := unhide HR; omega))
    clear q1 d0 d1
    go_wp2_with fail
    refine (unhide H2).mono ?_
    rintro e x2 ⟨rfl, v2, q2⟩
    have Q2 := hide ((unhide Q1).trans q2)
    have q12 := (unhide HQ).trans q2
    have c2 := WrAt.off (unhide HH) q12 hk2 d2
    have c5 := WrAt.off (unhide HH) q12 hk1 p0
    have HQ2 := hide q12
    have H3 := hide (WO.u64_any b v2 _ (toU64 c) x2 (unhide HLC) q2.now (by rw [List.length_append, List.length_append, be_length, unhide HFL]; have := unhide HR; omega))
    clear q2 q12 d2 c4 c0 c1 H2 HX1
    go_wp2_with fail
    refine (unhide H3).mono ?_
    rintro e x3 ⟨rfl, v3, q3⟩
    have Q3 := hide ((unhide Q2).trans q3)
    have q13 := (unhide HQ2).trans q3
    have c3 := WrAt.off (unhide HH) q13 hk2 d3
    have c6 := WrAt.off (unhide HH) q13 hk1 p0
    have H4 := hide (WO.u8_any b v3 _ u x3 q3.now (by rw [List.length_append, List.length_append, List.length_append, be_length, be_length, unhide HFL]; have := unhide HR; omega))
    clear q3 q13 d3 c5 c2 H3 HX2
    go_wp2_with fail
    refine (unhide H4).mono ?_
    rintro e x4 ⟨rfl, v4, q4⟩
    have Q4 := hide ((unhide Q3).trans q4)
    clear q4
    go_wp2
    go_end0
    refine ⟨rfl, v4, ?_⟩
    have := unhide Q4
    try rw [if_pos rfl]
    simp only [List.append_assoc] at this ⊢
    exact this
end Ob
end Go.Proofs.YtlcnckmbimmpjaaDoor
