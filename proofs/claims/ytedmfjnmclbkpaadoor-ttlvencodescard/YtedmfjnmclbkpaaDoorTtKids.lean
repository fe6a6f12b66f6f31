/-
  The decoder's kids: what stands in a Structure, one by one, by a decoder of its own.
-/
import Derived.Test.YtedmfjnmclbkpaaDoorTtItem
import Derived.Deep.RegionHeldLaw
namespace Go.Proofs.YtedmfjnmclbkpaaDoor
open Go.RowKit
set_option linter.unusedSimpArgs false
set_option linter.unusedVariables false
namespace Tt

/-- item, so deep -/
def DecC (n : Nat) : Prop := ∀ (db rb cb depth : Nat) (v : Value) (r : List UInt8) (c : Nat) (w : World), DcAt w db rb cb depth v r c → depth + n = 13 → c ≤ 600 → r.length ≤ 8192 → Tabs w →
    Calls Tryd.prog 25 #[.pointer (some ⟨db, 0, none⟩)] w (IOut w db rb cb depth v n (dOne n r c))

/-- two decoders, the inner one of memory of its own, made ahead of block B -/
structure Two (w : World) (db rb cb depth : Nat) (v v2 : Value) (r2 : List UInt8) (wr : World) (B db2 rb2 depth2 : Nat) (vv : Value) (rest : List UInt8) (cc : Nat) : Prop where
  out : DTo w db rb cb depth v wr v2 r2 cc
  inn : DcAt wr db2 rb2 cb depth2 vv rest cc
  far : w.heap.size < db2 ∧ w.heap.size < rb2 ∧ db2 < B ∧ rb2 < B ∧ w.heap.size ≤ B
  vfar : ∀ k, blk vv = some k → k < B
  up : B ≤ wr.heap.size

theorem Two.step {w wr w' : World} {db rb cb depth B db2 rb2 depth2 : Nat} {v v2 vv vv' : Value} {r r2 rest rest' : List UInt8} {c cc cc' : Nat} (h0 : DcAt w db rb cb depth v r c) (h : Two w db rb cb depth v v2 r2 wr B db2 rb2 depth2 vv rest cc) (hd : DTo wr db2 rb2 cb depth2 vv w' vv' rest' cc') :
    Two w db rb cb depth v v2 r2 w' B db2 rb2 depth2 vv' rest' cc' := by
  have l1 := lt_of_block h0.dec
  have l2 := lt_of_block h0.rd.blk
  have l3 := lt_of_block h0.cnt
  have hf := h.far
  have hs := h0.sep
  refine ⟨⟨⟨hd.only.heap h.out.now.dec (by omega), h.out.now.rd.only hd.only (by omega) (fun k e hk => ?_), hd.now.cnt, h.out.now.sep, h.out.now.vsep, fun k e => Nat.lt_of_lt_of_le (h.out.now.vlt k e) hd.only.size, h.out.now.two⟩, h.out.only.trans hd.only (fun i hi e => by omega), h.out.vblk⟩, hd.now, h.far, fun k e => h.vfar k (hd.vblk k e), Nat.le_trans h.up hd.only.size⟩
  have := h0.vlt k (h.out.vblk k e)
  have := h.out.now.vsep k e
  omega
theorem Two.later {w wr w' : World} {db rb cb depth B db2 rb2 depth2 : Nat} {v v2 vv : Value} {r r2 rest : List UInt8} {c cc : Nat} (h0 : DcAt w db rb cb depth v r c) (h : Two w db rb cb depth v v2 r2 wr B db2 rb2 depth2 vv rest cc) (ho : Only (fun k => B ≤ k) wr w') :
    Two w db rb cb depth v v2 r2 w' B db2 rb2 depth2 vv rest cc := by
  have hf := h.far
  have l3 := lt_of_block h0.cnt
  exact ⟨h0.set h.out (ho.mono (fun k _ e => by omega)), ⟨ho.heap h.inn.dec (by omega), h.inn.rd.only ho (by omega) (fun k e hk => by have := h.vfar k e; omega), ho.heap h.inn.cnt (by omega), h.inn.sep, h.inn.vsep, fun k e => Nat.lt_of_lt_of_le (h.inn.vlt k e) ho.size, h.inn.two⟩, h.far, h.vfar, Nat.le_trans h.up ho.size⟩

/-- the loop over the kids -/
structure KL (TOT : RK) (n : Nat) (w : World) (db rb cb depth : Nat) (v v2 : Value) (r2 : List UInt8) (B db2 rb2 gk : Nat) (kv : Value) (wr : World) : Prop where
  ex : ∃ acc vv rest cc, many (dOne n) gk rest cc acc = TOT ∧ rest.length ≤ gk ∧ acc.length * 8 + rest.length ≤ 8192 ∧ cc ≤ 600 ∧ Two w db rb cb depth v v2 r2 wr B db2 rb2 (depth + 1) vv rest cc ∧ RowI (fun k => B ≤ k) B (n + 1) wr kv acc ∧ wr.heap[w.heap.size]? = some (.cells #[.int .i64 0, .int .i64 0, .int .i64 0, .slice none 0 0, .slice none 0 0] 25 (0, 0))

section
variable {w : World} {db rb cb depth : Nat} {v : Value} {r : List UInt8} {c : Nat}
set_option maxHeartbeats 4000000 in
set_option maxRecDepth 100000 in
theorem kids_any {n : Nat} (ih : DecC n) (h : DcAt w db rb cb depth v r c) (hT : Tabs w) (L : Nat) (hL : L ≤ r.length) (hr : r.length ≤ 8192) (hd : depth + (n + 1) = 13) (hc : c ≤ 600) :
    Calls Tryd.prog 41 #[.pointer (some ⟨db, 0, none⟩), .int .i64 L] w (ROut w db rb cb depth v (n + 1) (rdr n 1 L r c)) := by
  obtain ⟨w1, hw1, h1, hb, o1⟩ := zeroed h
  obtain ⟨c0, c1, c2, c3, c4⟩ := h1.cells
  obtain ⟨R, hE⟩ : ∃ R, rdr n 1 L r c = R := ⟨_, rfl⟩
  rw [hE]
  unfold rdr at hE
  rw [if_pos rfl] at hE
  obtain ⟨TOT, hTOT⟩ : ∃ TOT, many (dOne n) L (r.take L) c [] = TOT := ⟨_, rfl⟩
  rw [hTOT] at hE
  have HE := hide hE
  have HTOT := hide hTOT
  have HD := hide h
  have HB := hide hb
  have HO := hide o1
  have HT := hide hT
  have HIH := hide ih
  have HRaw := hide (fun W (o : Only (fun _ => False) w1 W) => dc_raw (h1.same o) L hL (by omega))
  have hne : ¬ (w.heap.size = rb ∨ w.heap.size = cb) := by
    have h1 := lt_of_block h.rd.blk
    have h2 := lt_of_block h.cnt
    omega
  have hne2 : ¬ (db = rb ∨ db = cb) := by have := h.sep; omega
  have HS1 : Hid (w1.heap.size = w.heap.size + 1) := by show _ = _; rw [hw1]; simp
  have hwd : wrap64 ((depth : Int) + 1) = (depth : Int) + 1 := by unfold wrap64; omega
  have htl : (r.take L).length = L := by rw [List.length_take]; omega
  clear h h1 hE hTOT hb o1 ih hT
  go_enter Tryd.func41, Tryd.ntmps41
  subst hw1
  go_wp2_with fail
  generalize w.alloc (.cells #[.int .i64 0, .int .i64 0, .int .i64 0, .slice none 0 0, .slice none 0 0] 25) = w1 at *
  refine wp_region_held_drew (S := (fun w' => w'.cell? ⟨db, 0, none⟩ = some (.pointer (some ⟨rb, 0, none⟩)) ∧ w'.cell? ⟨db, 1, none⟩ = some (.int .i64 depth) ∧ w'.cell? ⟨db, 2, none⟩ = some (.pointer (some ⟨cb, 0, none⟩)))) (by kernel_rfl) (⟨c0, c1, c2⟩) (fun hHeld => ?_)
  refine wpAnyH_take (i := 0) (v := ?v71) rfl (by kernel_rfl) (by kernel_rfl) (by kernel_rfl) (fun _ _ _ h => h) (Or.inl ⟨by rfl, ?hy71⟩) (by assumption) ?rest71
  case hy71 =>
    intro w hSw
    go_simp
    try with_reducible rfl
  try simp only [Act.put, List.setIfInBounds_toArray, List.set_cons_zero, List.set_cons_succ, List.getElem_toArray, List.getElem_cons_succ, List.getElem_cons_zero]
  refine wpAnyH_take (i := 1) (v := ?v72) rfl (by kernel_rfl) (by kernel_rfl) (by kernel_rfl) (fun _ _ _ h => h) (Or.inl ⟨by rfl, ?hy72⟩) (by assumption) ?rest72
  case hy72 =>
    intro w hSw
    go_simp
    try with_reducible rfl
  try simp only [Act.put, List.setIfInBounds_toArray, List.set_cons_zero, List.set_cons_succ, List.getElem_toArray, List.getElem_cons_succ, List.getElem_cons_zero]
  refine wpAnyH_take (i := 2) (v := ?v73) rfl (by kernel_rfl) (by kernel_rfl) (by kernel_rfl) (fun _ _ _ h => h) (Or.inl ⟨by rfl, ?hy73⟩) (by assumption) ?rest73
  case hy73 =>
    intro w hSw
    go_simp
    try with_reducible rfl
  try simp only [Act.put, List.setIfInBounds_toArray, List.set_cons_zero, List.set_cons_succ, List.getElem_toArray, List.getElem_cons_succ, List.getElem_cons_zero]
  refine wpAnyH_take (i := 3) (v := ?v74) rfl (by kernel_rfl) (by kernel_rfl) (by kernel_rfl) (fun _ _ _ h => h) (Or.inl ⟨by rfl, ?hy74⟩) (by assumption) ?rest74
  case hy74 =>
    intro w hSw
    (obtain ⟨q0, q1, q2⟩ := hSw; go_simp; try with_reducible rfl)
  try simp only [Act.put, List.setIfInBounds_toArray, List.set_cons_zero, List.set_cons_succ, List.getElem_toArray, List.getElem_cons_succ, List.getElem_cons_zero]
  refine wpAnyH_take (i := 4) (v := ?v75) rfl (by kernel_rfl) (by kernel_rfl) (by kernel_rfl) (fun _ _ _ h => h) (Or.inl ⟨by rfl, ?hy75⟩) (by assumption) ?rest75
  case hy75 =>
    intro w hSw
    go_simp
    try with_reducible rfl
  try simp only [Act.put, List.setIfInBounds_toArray, List.set_cons_zero, List.set_cons_succ, List.getElem_toArray, List.getElem_cons_succ, List.getElem_cons_zero]
  refine wpAnyH_take (i := 7) (v := ?v76) rfl (by kernel_rfl) (by kernel_rfl) (by kernel_rfl) (fun _ _ _ h => h) (Or.inl ⟨by rfl, ?hy76⟩) (by assumption) ?rest76
  case hy76 =>
    intro w hSw
    go_simp
    try with_reducible rfl
  try simp only [Act.put, List.setIfInBounds_toArray, List.set_cons_zero, List.set_cons_succ, List.getElem_toArray, List.getElem_cons_succ, List.getElem_cons_zero]
  refine wpAnyH_take (i := 8) (v := ?v77) rfl (by kernel_rfl) (by kernel_rfl) (by kernel_rfl) (fun _ _ _ h => h) (Or.inl ⟨by rfl, ?hy77⟩) (by assumption) ?rest77
  case hy77 =>
    intro w hSw
    go_simp
    try with_reducible rfl
  try simp only [Act.put, List.setIfInBounds_toArray, List.set_cons_zero, List.set_cons_succ, List.getElem_toArray, List.getElem_cons_succ, List.getElem_cons_zero]
  refine wpAnyH_take (i := 9) (v := ?v78) rfl (by kernel_rfl) (by kernel_rfl) (by kernel_rfl) (fun _ _ _ h => h) (Or.inl ⟨by rfl, ?hy78⟩) (by assumption) ?rest78
  case hy78 =>
    intro w hSw
    go_simp
    try with_reducible rfl
  try simp only [Act.put, List.setIfInBounds_toArray, List.set_cons_zero, List.set_cons_succ, List.getElem_toArray, List.getElem_cons_succ, List.getElem_cons_zero]
  refine wpAnyH_take (i := 10) (v := ?v79) rfl (by kernel_rfl) (by kernel_rfl) (by kernel_rfl) (fun _ _ _ h => h) (Or.inl ⟨by rfl, ?hy79⟩) (by assumption) ?rest79
  case hy79 =>
    intro w hSw
    (obtain ⟨q0, q1, q2⟩ := hSw; go_simp; try with_reducible rfl)
  try simp only [Act.put, List.setIfInBounds_toArray, List.set_cons_zero, List.set_cons_succ, List.getElem_toArray, List.getElem_cons_succ, List.getElem_cons_zero]
  refine wpAnyH_take (i := 11) (v := ?v80) rfl (by kernel_rfl) (by kernel_rfl) (by kernel_rfl) (fun _ _ _ h => h) (Or.inl ⟨by rfl, ?hy80⟩) (by assumption) ?rest80
  case hy80 =>
    intro w hSw
    go_simp
    try with_reducible rfl
  try simp only [Act.put, List.setIfInBounds_toArray, List.set_cons_zero, List.set_cons_succ, List.getElem_toArray, List.getElem_cons_succ, List.getElem_cons_zero]
  refine wpAnyH_take (i := 12) (v := ?v81) rfl (by kernel_rfl) (by kernel_rfl) (by kernel_rfl) (fun _ _ _ h => h) (Or.inl ⟨by rfl, ?hy81⟩) (by assumption) ?rest81
  case hy81 =>
    intro w hSw
    go_simp
    try with_reducible rfl
  try simp only [Act.put, List.setIfInBounds_toArray, List.set_cons_zero, List.set_cons_succ, List.getElem_toArray, List.getElem_cons_succ, List.getElem_cons_zero]
  refine wpAnyH_take (i := 13) (v := ?v82) rfl (by kernel_rfl) (by kernel_rfl) (by kernel_rfl) (fun _ _ _ h => h) (Or.inl ⟨by rfl, ?hy82⟩) (by assumption) ?rest82
  case hy82 =>
    intro w hSw
    go_simp
    try with_reducible rfl
  try simp only [Act.put, List.setIfInBounds_toArray, List.set_cons_zero, List.set_cons_succ, List.getElem_toArray, List.getElem_cons_succ, List.getElem_cons_zero]
  refine wpAnyH_take (i := 14) (v := ?v83) rfl (by kernel_rfl) (by kernel_rfl) (by kernel_rfl) (fun _ _ _ h => h) (Or.inl ⟨by rfl, ?hy83⟩) (by assumption) ?rest83
  case hy83 =>
    intro w hSw
    go_simp
    try with_reducible rfl
  try simp only [Act.put, List.setIfInBounds_toArray, List.set_cons_zero, List.set_cons_succ, List.getElem_toArray, List.getElem_cons_succ, List.getElem_cons_zero]
  refine wpAnyH_take (i := 15) (v := ?v84) rfl (by kernel_rfl) (by kernel_rfl) (by kernel_rfl) (fun _ _ _ h => h) (Or.inl ⟨by rfl, ?hy84⟩) (by assumption) ?rest84
  case hy84 =>
    intro w hSw
    (obtain ⟨q0, q1, q2⟩ := hSw; go_simp; try with_reducible rfl)
  try simp only [Act.put, List.setIfInBounds_toArray, List.set_cons_zero, List.set_cons_succ, List.getElem_toArray, List.getElem_cons_succ, List.getElem_cons_zero]
  refine wpAnyH_ready (rs := [5]) (by kernel_rfl) (by simp) ?_
  refine AllReadyH.cons rfl (fun K hK => ?_) AllReadyH.nil
  go_simp
  go_wp2_with fail; refine (unhide HRaw _ ((Only.refl _ _).drew)).mono ?_; rintro e w2 ⟨u, rfl, hu, huk, v2, d2d⟩; have d2 : DTo w1 db rb cb depth v w2 v2 (r.drop L) c := ((((unhide HD).to (unhide HO)).now).to ((Only.refl _ w1).drew)).trans d2d; have o2 := d2.only; obtain ⟨ua, uc, hus, _⟩ := hu.shape; subst hus; rw [htl] at hu huk; have HNR := hide (fun W (o : Only (fun _ => False) w2 W) => RO.newReader_any _ (r.take L) W (hu.only o (fun _ _ _ e => e)) (by rw [List.length_take]; omega)); have HD2 := hide (((unhide HD).to (unhide HO)).trans d2)
  refine hK.out _ _ (⟨o2.cell c0 hne2, o2.cell c1 hne2, o2.cell c2 hne2⟩) (fun hHeld => ?_)
  clear hK K
  try simp only [Act.put, List.setIfInBounds_toArray, List.set_cons_zero, List.set_cons_succ, List.getElem_toArray, List.getElem_cons_succ, List.getElem_cons_zero]
  refine wpAnyH_ready (rs := [6]) (by kernel_rfl) (by simp) ?_
  refine AllReadyH.cons rfl (fun K hK => ?_) AllReadyH.nil
  go_simp
  go_wp2_with fail; refine (unhide HNR _ (Only.refl _ _)).mono ?_; rintro e w3 ⟨b3, rfl, v3, hr3, o3, hb3, hk3⟩
  refine hK.out _ _ (⟨(o2.trans o3 (fun _ _ e => e.elim)).cell c0 hne2, (o2.trans o3 (fun _ _ e => e.elim)).cell c1 hne2, (o2.trans o3 (fun _ _ e => e.elim)).cell c2 hne2⟩) (fun hHeld => ?_)
  clear hK K
  try simp only [Act.put, List.setIfInBounds_toArray, List.set_cons_zero, List.set_cons_succ, List.getElem_toArray, List.getElem_cons_succ, List.getElem_cons_zero]
  refine wpAnyH_take (i := 16) (v := ?v85) rfl (by kernel_rfl) (by kernel_rfl) (by kernel_rfl) (fun _ _ _ h => h) (Or.inl ⟨by rfl, ?hy85⟩) (by assumption) ?rest85
  case hy85 =>
    intro w hSw
    go_simp
    try with_reducible rfl
  try simp only [Act.put, List.setIfInBounds_toArray, List.set_cons_zero, List.set_cons_succ, List.getElem_toArray, List.getElem_cons_succ, List.getElem_cons_zero]
  refine wpAnyH_ready (rs := [17]) (by kernel_rfl) (by simp) ?_
  refine AllReadyH.cons rfl (fun K hK => ?_) AllReadyH.nil
  go_simp
  refine hK.out _ _ (⟨((o2.trans o3 (fun _ _ e => e.elim)).alloc _).cell c0 hne2, ((o2.trans o3 (fun _ _ e => e.elim)).alloc _).cell c1 hne2, ((o2.trans o3 (fun _ _ e => e.elim)).alloc _).cell c2 hne2⟩) (fun hHeld => ?_)
  clear hK K
  try simp only [Act.put, List.setIfInBounds_toArray, List.set_cons_zero, List.set_cons_succ, List.getElem_toArray, List.getElem_cons_succ, List.getElem_cons_zero]
  refine wpAnyH_take (i := 18) (v := ?v86) rfl (by kernel_rfl) (by kernel_rfl) (by kernel_rfl) (fun _ _ _ h => h) (Or.inl ⟨by rfl, ?hy86⟩) (by assumption) ?rest86
  case hy86 =>
    intro w hSw
    go_simp
    try with_reducible rfl
  try simp only [Act.put, List.setIfInBounds_toArray, List.set_cons_zero, List.set_cons_succ, List.getElem_toArray, List.getElem_cons_succ, List.getElem_cons_zero]
  refine wpAnyH_done (by kernel_rfl) ?_ _
  have hwi : IntKind.i64.wrap ((depth : Int) + 1) = ((depth + 1 : Nat) : Int) := by rw [IntKind.wrap_i64]; omega
  rw [hwi]
  have oB : Only (fun _ => False) w3 (w3.alloc (.cells #[.pointer (some ⟨b3, 0, none⟩), .int .i64 ((depth + 1 : Nat) : Int), .pointer (some ⟨cb, 0, none⟩)] 52)) := (Only.refl _ _).alloc _
  have hnew := heap_alloc_new w3 (.cells #[.pointer (some ⟨b3, 0, none⟩), .int .i64 ((depth + 1 : Nat) : Int), .pointer (some ⟨cb, 0, none⟩)] 52)
  have hs4 : (w3.alloc (.cells #[.pointer (some ⟨b3, 0, none⟩), .int .i64 ((depth + 1 : Nat) : Int), .pointer (some ⟨cb, 0, none⟩)] 52)).heap.size = w3.heap.size + 1 := by simp
  have hb4 := oB.heap (o3.heap (o2.heap (unhide HB) hne) (fun e => e)) (fun e => e)
  have hout := ((unhide HD2).same o3).same oB
  have hl3 := lt_of_block (unhide HD).cnt
  have hsz2 := (unhide HD2).only.size
  have hlb3 := lt_of_block hr3.blk
  have hinn : DcAt (w3.alloc (.cells #[.pointer (some ⟨b3, 0, none⟩), .int .i64 ((depth + 1 : Nat) : Int), .pointer (some ⟨cb, 0, none⟩)] 52)) w3.heap.size b3 cb (depth + 1) v3 (r.take L) c :=
    ⟨hnew, hr3.only oB (fun e => e) (fun _ _ e => e), hout.now.cnt, ⟨by omega, by omega, by omega⟩, fun k e => by have := (hk3 k e).1; omega, fun k e => by have := (hk3 k e).2; omega, by have := (unhide HD).two; omega, (unhide HD).two.2⟩
  have htwo : Two w db rb cb depth v v2 (r.drop L) (w3.alloc (.cells #[.pointer (some ⟨b3, 0, none⟩), .int .i64 ((depth + 1 : Nat) : Int), .pointer (some ⟨cb, 0, none⟩)] 52)) (w3.heap.size + 1) w3.heap.size b3 (depth + 1) v3 (r.take L) c :=
    ⟨hout, hinn, by have := o3.size; have := d2.only.size; have := unhide HS1; omega, fun k e => by have := (hk3 k e).2; omega, by rw [hs4]; exact Nat.le_refl _⟩
  have HTW := hide htwo
  have HB4 := hide hb4
  have HFar := hide htwo.far
  clear htwo hinn hout hnew hb4 oB hwi hk3 hr3 hlb3 HD2 d2 d2d o2 o3 hb3 hu huk c0 c1 c2 c3 c4 hHeld HNR HRaw hsz2 hwd
  generalize w3.alloc (.cells #[.pointer (some ⟨b3, 0, none⟩), .int .i64 ((depth + 1 : Nat) : Int), .pointer (some ⟨cb, 0, none⟩)] 52) = w4 at *
  obtain ⟨db2, hdb2⟩ : ∃ db2, w3.heap.size = db2 := ⟨_, rfl⟩
  rw [hdb2] at HTW HFar hs4 ⊢
  obtain ⟨B, hB⟩ : ∃ B, db2 + 1 = B := ⟨_, rfl⟩
  rw [hB] at HTW HFar hs4
  have HS4 := hide hs4
  clear hdb2 hB hs4
  go_wp2_with fail
  go_loopg [7] L (fun gk s7 wr => KL TOT n w db rb cb depth v v2 (r.drop L) B db2 b3 gk s7 wr)
  case atStart => exact ⟨[], v3, r.take L, c, unhide HTOT, by rw [htl]; exact Nat.le_refl _, by rw [htl]; simp; omega, hc, unhide HTW, rowI_nil _ _ _ _, unhide HB4⟩
  case round =>
    obtain ⟨acc, vv, rest, cc, hm, hlr, hal, hcc, htw, hrow, hbr⟩ := hrel.ex
    obtain ⟨ao, cap, rfl⟩ := hrow.shape
    obtain ⟨c0, c1, c2, c3, c4⟩ := htw.inn.cells
    have HLf := hide (dc_left htw.inn)
    have HTw := hide htw
    have HRow := hide hrow
    have HBr := hide hbr
    have HM := hide hm
    cases rest with
    | nil =>
      have hm2 := unhide HM
      unfold many at hm2
      rw [← hm2] at HE
      simp only [List.length_nil] at HLf
      have hf : ∀ i, wr.frozen? ⟨w.heap.size, i, none⟩ = false := by simp [World.frozen?, hbr]
      obtain ⟨s0, s1, s2, s3, s4⟩ := cells_of5 hbr
      clear hm htw hrow hbr hm2 HM hrel HTW HB4 hal hlr HTOT
      obtain ⟨al, hal⟩ : ∃ al, acc.length = al := ⟨_, rfl⟩
      rw [hal] at HRow ⊢
      have HAL := hide hal
      clear hal
      go_wp2_with fail
      refine (unhide HLf).mono ?_
      rintro e w5 ⟨rfl, rfl⟩
      go_wp2
      obtain ⟨hb5, o5⟩ := put5 (unhide HBr) (.int .i64 0) (.int .i64 0) (.int .i64 0) (.slice none 0 0) (.slice ao al cap)
      refine bodyPost_ret (results_it2 rfl _ _ w.heap.size 0 0 0 none 0 0 ao al cap rfl (cells_of5 hb5)) rfl ?_
      have hfar := unhide HFar
      refine rOut_ok (unhide HE).symm ?_ ((unhide HD).set (unhide HTw).out (o5.mono (fun k _ e => by omega)))
      have hr5 := (unhide HRow).later o5 (fun k _ hk e => by omega) (fun k hk e => by have := ((unhide HRow).lt k hk).1; omega)
      exact ⟨Or.inl ⟨rfl, rfl⟩, fun hh => absurd rfl hh, (hr5.mono (R := fun k => w.heap.size ≤ k) (fun k _ hk => by omega)).kids (fun k hk => by omega)⟩
    | cons x rs =>
      obtain ⟨g', rfl⟩ : ∃ g', gk = g' + 1 := ⟨gk - 1, by simp at hlr; omega⟩
      have HItem := hide (unhide HIH db2 b3 cb (depth + 1) vv (x :: rs) cc wr htw.inn (by omega) hcc (by omega) (htw.out.tabs (unhide HT)))
      rw [many] at HM
      have hlz : (0 : Int) < ((x :: rs).length : Int) := by rw [List.length_cons]; omega
      have HAL := hide hal
      have HLR := hide hlr
      clear hm htw hrow hbr hrel HTW HB4 hal hlr HTOT
      cases hdo : dOne n (x :: rs) cc with
      | err er =>
        have hep := dOne_err _ _ _ _ hdo
        have e4 : (er == 0) = false := by rw [beq_eq_false_iff_ne]; omega
        rw [hdo] at HM HItem
        have hm2 : RK.err er = TOT := unhide HM
        rw [← hm2] at HE
        clear hdo hm2
        generalize (x :: rs).length = rl at *
        go_wp2_with fail
        refine (unhide HLf).mono ?_
        rintro e w5 ⟨rfl, rfl⟩
        clear HLf
        go_wp2_with fail
        refine (unhide HItem).mono ?_
        rintro e w6 ⟨rfl, o6⟩
        have hfar := unhide HFar
        have hl3 := lt_of_block (unhide HD).cnt
        have hb6 := o6.heap (unhide HBr) (show ¬ (w.heap.size = b3 ∨ w.heap.size = cb) by omega)
        have HO6 := hide ((unhide HTw).out.only.trans o6 (fun i hi e => by omega))
        have oI : Only (fun _ => False) w6 (w6.alloc (.cells #[.int .i64 0, .int .i64 0, .int .i64 0, .slice none 0 0, .slice none 0 0] 25)) := (Only.refl _ _).alloc _
        have hb7 := oI.heap hb6 (fun e => e)
        have HB7 := hide hb7
        have HO7 := hide ((unhide HO6).trans oI (fun _ _ e => e.elim))
        have HC7 := hide (cells_of5 hb7)
        have HF7 : Hid (∀ i, (w6.alloc (.cells #[.int .i64 0, .int .i64 0, .int .i64 0, .slice none 0 0, .slice none 0 0] 25)).frozen? ⟨w.heap.size, i, none⟩ = false) := by show ∀ i, _; simp [World.frozen?, hb7]
        clear o6 hb6 oI hb7 HItem c0 c1 c2 c3 c4 hfar hl3
        go_upto_region 5 with fail
        generalize w6.alloc (.cells #[.int .i64 0, .int .i64 0, .int .i64 0, .slice none 0 0, .slice none 0 0] 25) = w7 at *
        have hf := unhide HF7
        obtain ⟨s0, s1, s2, s3, s4⟩ := unhide HC7
        go_wp2
        obtain ⟨hb8, o8⟩ := put5 (unhide HB7) (.int .i64 0) (.int .i64 0) (.int .i64 0) (.slice none 0 0) (.slice none 0 0)
        refine bodyPost_ret (results_it2 rfl _ _ w.heap.size 0 0 0 none 0 0 none 0 0 rfl (cells_of5 hb8)) rfl ?_
        exact rOut_err (unhide HE).symm (only_set (unhide HO7) (o8.mono (fun k _ e => by omega)))
      | ok it r' c' =>
        obtain ⟨k1, k2, k3, k4, k5⟩ := dOne_ok (M := 8192) n (x :: rs) cc it r' c' (by have := unhide HAL; omega) hdo
        have k6 := size_ge it
        have hlen : (x :: rs).length = it.size + r'.length := by rw [k1, List.length_append, lay_length]
        rw [hdo] at HM HItem
        have HM2 : Hid (many (dOne n) g' r' c' (acc ++ [it]) = TOT) := unhide HM
        have HNext : Hid (r'.length ≤ g' ∧ (acc ++ [it]).length * 8 + r'.length ≤ 8192 ∧ c' ≤ 600) := ⟨by have := unhide HLR; omega, by have := unhide HAL; rw [List.length_append, List.length_singleton]; omega, k3⟩
        have hab : acc.length ≤ 1024 := by have := unhide HAL; omega
        clear hdo k1 k2 k3 k4 k5 k6 HM hlen
        generalize (x :: rs).length = rl at *
        go_wp2_with fail
        refine (unhide HLf).mono ?_
        rintro e w5 ⟨rfl, rfl⟩
        clear HLf
        go_wp2_with fail
        refine (unhide HItem).mono ?_
        rintro e w6 ⟨dv, kv2, vv', rfl, hit, d6⟩
        obtain ⟨⟨da, dc, hds⟩, ka, kc, hks⟩ := hit.shapes
        subst hds
        subst hks
        have hfar := unhide HFar
        have hl3 := lt_of_block (unhide HD).cnt
        have hb6 := d6.only.heap (unhide HBr) (show ¬ (w.heap.size = b3 ∨ w.heap.size = cb) by omega)
        have htw6 := Two.step (unhide HD) (unhide HTw) d6
        have hrow6 := (unhide HRow).later d6.only (fun k _ hk e => by omega) (fun k hk e => by have := ((unhide HRow).lt k hk).1; omega)
        have hsz6 := d6.only.size
        have hrl := (unhide HRow).lt
        obtain ⟨⟨x0, x1, x2, x3, x4⟩, oI⟩ := boxed w6 (.int .i64 it.tag) (.int .i64 it.typ) (.int .i64 it.int) (.slice da it.data.length dc) (.slice ka it.kids.length kc)
        have hup := (unhide HTw).up
        have hb7 := oI.heap hb6 (fun e => e)
        have htw7 := Two.later (unhide HD) htw6 (oI.mono (T := fun k => B ≤ k) (fun _ _ e => e.elim))
        have hrow7 := hrow6.same oI
        have hit7 := (ItAt.mono (R := fun k => B ≤ k ∧ (Value.slice ao acc.length cap).ownBlock ≠ some k) (fun k hk hq => ⟨by omega, fun e => by have := (hrl k e).2; omega⟩) _ hit).same oI
        obtain ⟨zs, hzs, ownz, eachz⟩ := hrow7.own
        have hzl : zs.length = acc.length := by rw [← hzs, List.length_map]
        rw [← hzl] at ownz eachz hit7 hab
        obtain ⟨i0, hi0, hz0, hz1, hz2⟩ := info_parts Tryd.infoItem
        have HOW := hide ownz
        have HEA := hide eachz
        have HIT := hide hit7
        have HZS := hide hzs
        have HTW7 := hide htw7
        have HB7 := hide hb7
        have HRL : Hid (∀ k, (Value.slice ao zs.length cap).ownBlock = some k → B ≤ k) := fun k hk => ((unhide HRow).lt k (by rw [← hzl]; exact hk)).1
        have HUP : Hid (B ≤ (w6.alloc (.cells #[.int .i64 it.tag, .int .i64 it.typ, .int .i64 it.int, .slice da it.data.length dc, .slice ka it.kids.length kc] 25)).heap.size) := by show _ ≤ _; simp; omega
        rw [← hzl]
        clear hit d6 hb6 htw6 hrow6 hsz6 hrl oI hb7 htw7 hrow7 hit7 hzs ownz eachz HItem c0 c1 c2 c3 c4 hfar hl3 hup hzl HRow
        go_upto_region 5 with fail
        generalize w6.alloc (.cells #[.int .i64 it.tag, .int .i64 it.typ, .int .i64 it.int, .slice da it.data.length dc, .slice ka it.kids.length kc] 25) = w7 at *
        go_wp2_with (refine wpList_append_lies _ rfl (.tmp 43) (.tmp 45) 23 rfl B 25 i0 _ 5 72 Tryd.underlying23 hi0 hz0 hz1 hz2 rfl (by decide) _ zs.length (zs.flatMap zi) rfl ((unhide HOW).alloc _) ⟨w7.heap.size, 0, none⟩ 1 1 (zi (it, .slice da it.data.length dc, .slice ka it.kids.length kc)) rfl rfl (World.news_of_block (heap_alloc_new w7 _)) (by simp [zi, Value.oneCell']) (by decide) (by unfold maxLen; omega) (by omega) (by have := unhide HUP; simp; omega) (w7.heap.size + 1) (by simp) ?_; intro g cap' w9 own9 gr9 at9 lt9)
        have hP := RowI.pushed (Q := fun k => B ≤ k) (n := n + 1) (z := (it, .slice da it.data.length dc, .slice ka it.kids.length kc)) (unhide HOW) (unhide HEA) (unhide HIT) ((Only.refl _ w7).alloc (.cells #[.int .i64 it.tag, .int .i64 it.typ, .int .i64 it.int, .slice da it.data.length dc, .slice ka it.kids.length kc] 25)) own9 gr9 (by rcases at9 with e | e; exact Or.inl e; exact Or.inr (by rw [e]; simp))
        rw [unhide HZS] at hP
        have hfar := unhide HFar
        have htw9 := Two.later (unhide HD) (unhide HTW7) (hP.2.mono (T := fun k => B ≤ k) (fun k _ e => unhide HRL k e))
        have hb9 := hP.2.heap (unhide HB7) (fun e => by have := unhide HRL _ e; omega)
        have hnx := unhide HNext
        go_roundg g'
        case measure => omega
        case rel => exact ⟨acc ++ [it], vv', r', c', unhide HM2, hnx.1, hnx.2.1, hnx.2.2, htw9, hP.1, hb9⟩
end
end Tt
end Go.Proofs.YtedmfjnmclbkpaaDoor
