/-
  The decoder: its state, what a call of it answers, and the plain parts of chapter 6.3 that its methods do.
-/
import Derived.Test.YtedmfjnmclbkpaaDoorTtEnc
import Derived.Test.YtedmfjnmclbkpaaDoorRdLO
namespace Go.Proofs.YtedmfjnmclbkpaaDoor
open Go.RowKit
set_option linter.unusedSimpArgs false
set_option linter.unusedVariables false
namespace Tt

/-- what stands in an item -/
inductive RB where
  | err (e : Int) | ok (n : Int) (d : List UInt8) (ks : List It) (r : List UInt8) (c : Nat)
def leafN (y : Int) (b : List UInt8) : Int := if isData y then 0 else numOf y b
def leafD (y : Int) (b : List UInt8) : List UInt8 := if isData y then b else []
theorem leafI_eq (t y : Int) (b : List UInt8) : leafI t y b = .mk t y (leafN y b) (leafD y b) [] := by unfold leafI leafN leafD; split <;> rfl
/-- what a reader of the type takes -/
def rdr (n : Nat) (y : Int) (L : Nat) (r : List UInt8) (c : Nat) : RB :=
  if y = 1 then (match many (dOne n) L (r.take L) c [] with
    | .err e => .err e
    | .ok ks c' => .ok 0 [] ks (r.drop L) c')
  else if leafB y (r.take L) then .ok (leafN y (r.take L)) (leafD y (r.take L)) [] (r.drop L) c else .err 5
def after (t y : Int) (L : Nat) : RB → RI
  | .err e => .err e
  | .ok n d ks r c => fin (.mk t y n d ks) c L r
/-- the head: the tag, the type, the length -/
inductive RH where
  | err (e : Int) | ok (t y : Nat) (L : Nat)
def hdr (n : Nat) (bs : List UInt8) (c : Nat) : RH :=
  if bs.length < 8 then .err 7 else if n = 0 then .err 10 else if 600 ≤ c then .err 5
  else if (tagB (tagOf bs) && typB (typOf bs)) = false then .err 5 else if bs.length - 8 < lnOf bs then .err 7 else .ok (tagOf bs) (typOf bs) (lnOf bs)
theorem dOne_eq (n : Nat) (bs : List UInt8) (c : Nat) : dOne n bs c = match hdr n bs c with
    | .err e => .err e
    | .ok t y L => after t y L (rdr (n - 1) y L (bs.drop 8) (c + 1)) := by
  unfold hdr
  cases n with
  | zero =>
    rw [dOne]
    by_cases h8 : bs.length < 8
    · rw [if_pos h8, if_pos h8]
    · rw [if_neg h8, if_neg h8, if_pos rfl]
  | succ n =>
    rw [dOne]
    by_cases h8 : bs.length < 8
    · rw [if_pos h8, if_pos h8]
    rw [if_neg h8, if_neg h8, if_neg (show ¬ n + 1 = 0 by omega)]
    by_cases hc : 600 ≤ c
    · rw [if_pos hc, if_pos hc]
    rw [if_neg hc, if_neg hc]
    by_cases ht : (tagB (tagOf bs) && typB (typOf bs)) = false
    · rw [if_pos ht, if_pos ht]
    rw [if_neg ht, if_neg ht]
    by_cases hl : bs.length - 8 < lnOf bs
    · rw [if_pos hl, if_pos hl]
    rw [if_neg hl, if_neg hl]
    simp only [Nat.add_sub_cancel]
    unfold rdr
    rw [List.drop_drop]
    by_cases h1 : typOf bs = 1
    · rw [if_pos h1, if_pos (show (typOf bs : Int) = 1 by omega)]
      cases many (dOne n) (lnOf bs) ((bs.drop 8).take (lnOf bs)) (c + 1) [] with
      | err e => rfl
      | ok ks c' => rw [h1]; rfl
    · rw [if_neg h1, if_neg (show ¬ (typOf bs : Int) = 1 by omega)]
      by_cases hlf : leafB (typOf bs) ((bs.drop 8).take (lnOf bs)) = true
      · rw [if_pos hlf, if_pos hlf, after, leafI_eq]
      · rw [if_neg hlf, if_neg hlf]; rfl

/-- a decoder at db: its reader at rb, its count at cb -/
structure DcAt (w : World) (db rb cb depth : Nat) (v : Value) (rest : List UInt8) (c : Nat) : Prop where
  dec : w.heap[db]? = some (.cells #[.pointer (some ⟨rb, 0, none⟩), .int .i64 depth, .pointer (some ⟨cb, 0, none⟩)] 52 (0, 0))
  rd : Rdr 84 w rb v false rest
  cnt : w.heap[cb]? = some (.cells #[.int .i64 c] 3 (0, 0))
  sep : db ≠ rb ∧ db ≠ cb ∧ rb ≠ cb
  vsep : ∀ k, blk v = some k → k ≠ cb
  vlt : ∀ k, blk v = some k → k < w.heap.size
  two : 2 ≤ rb ∧ 2 ≤ cb

/-- from (w, v) on a decoder has come to (w', v') -/
structure DTo (w : World) (db rb cb depth : Nat) (v : Value) (w' : World) (v' : Value) (rest : List UInt8) (c : Nat) : Prop where
  now : DcAt w' db rb cb depth v' rest c
  only : Only (fun k => k = rb ∨ k = cb) w w'
  vblk : ∀ k, blk v' = some k → blk v = some k

theorem DcAt.same {w w' : World} {db rb cb depth : Nat} {v : Value} {rest : List UInt8} {c : Nat} (h : DcAt w db rb cb depth v rest c) (ho : Only (fun _ => False) w w') : DcAt w' db rb cb depth v rest c :=
  ⟨ho.heap h.dec (fun e => e), h.rd.only ho (fun e => e) (fun _ _ e => e), ho.heap h.cnt (fun e => e), h.sep, h.vsep, fun k e => Nat.lt_of_lt_of_le (h.vlt k e) ho.size, h.two⟩
theorem DcAt.to {w w' : World} {db rb cb depth : Nat} {v : Value} {rest : List UInt8} {c : Nat} (h : DcAt w db rb cb depth v rest c) (ho : Only (fun _ => False) w w') : DTo w db rb cb depth v w' v rest c := ⟨h.same ho, ho.mono (fun _ _ e => e.elim), fun _ e => e⟩
theorem DcAt.read {w w' : World} {db rb cb depth : Nat} {v v' : Value} {rest rest' : List UInt8} {c : Nat} (h : DcAt w db rb cb depth v rest c) (hr : ReadTo 84 w rb v w' v' false rest') : DTo w db rb cb depth v w' v' rest' c :=
  ⟨⟨hr.only.heap h.dec h.sep.1, hr.now, hr.only.heap h.cnt (fun e => h.sep.2.2 e.symm), h.sep, fun k e => h.vsep k (hr.vblk k e), fun k e => Nat.lt_of_lt_of_le (h.vlt k (hr.vblk k e)) hr.only.size, h.two⟩, hr.only.mono (fun _ _ e => Or.inl e), hr.vblk⟩
theorem DTo.trans {w w1 w2 : World} {db rb cb depth : Nat} {v v1 v2 : Value} {r1 r2 : List UInt8} {c1 c2 : Nat} (h : DTo w db rb cb depth v w1 v1 r1 c1) (k : DTo w1 db rb cb depth v1 w2 v2 r2 c2) : DTo w db rb cb depth v w2 v2 r2 c2 :=
  ⟨k.now, h.only.trans k.only (fun _ _ e => e), fun i e => h.vblk i (k.vblk i e)⟩
theorem DTo.same {w w1 w2 : World} {db rb cb depth : Nat} {v v1 : Value} {r1 : List UInt8} {c1 : Nat} (h : DTo w db rb cb depth v w1 v1 r1 c1) (ho : Only (fun _ => False) w1 w2) : DTo w db rb cb depth v w2 v1 r1 c1 := h.trans (h.now.to ho)
/-- one more item -/
theorem DcAt.more {w : World} {db rb cb depth : Nat} {v : Value} {rest : List UInt8} {c : Nat} (h : DcAt w db rb cb depth v rest c) (x : Nat) : DTo w db rb cb depth v (w.setCell ⟨cb, 0, none⟩ (.int .i64 x)) v rest x := by
  have o1 : Only (fun k => k = cb) w (w.setCell ⟨cb, 0, none⟩ (.int .i64 x)) := (Only.refl _ _).here 0 _
  exact ⟨⟨o1.heap h.dec h.sep.2.1, h.rd.only o1 h.sep.2.2 h.vsep, one_setCell h.cnt, h.sep, h.vsep, fun k e => Nat.lt_of_lt_of_le (h.vlt k e) o1.size, h.two⟩, o1.mono (fun _ _ e => Or.inr e), fun _ e => e⟩
theorem DcAt.cells {w : World} {db rb cb depth : Nat} {v : Value} {rest : List UInt8} {c : Nat} (h : DcAt w db rb cb depth v rest c) : w.cell? ⟨db, 0, none⟩ = some (.pointer (some ⟨rb, 0, none⟩)) ∧ w.cell? ⟨db, 1, none⟩ = some (.int .i64 depth) ∧ w.cell? ⟨db, 2, none⟩ = some (.pointer (some ⟨cb, 0, none⟩)) ∧ w.cell? ⟨cb, 0, none⟩ = some (.int .i64 c) ∧ w.frozen? ⟨cb, 0, none⟩ = false := by
  have h1 := h.dec
  have h2 := h.cnt
  simp [World.cell?, World.frozen?, h1, h2]
theorem DcAt.set {w w2 w3 : World} {db rb cb depth : Nat} {v v2 : Value} {r r2 : List UInt8} {c c2 : Nat} (h0 : DcAt w db rb cb depth v r c) (h : DTo w db rb cb depth v w2 v2 r2 c2) (ho : Only (fun k => w.heap.size ≤ k) w2 w3) : DTo w db rb cb depth v w3 v2 r2 c2 := by
  have l1 := lt_of_block h0.dec
  have l2 := lt_of_block h0.rd.blk
  have l3 := lt_of_block h0.cnt
  refine ⟨⟨ho.heap h.now.dec (by omega), h.now.rd.only ho (by omega) (fun k e hk => by have := h0.vlt k (h.vblk k e); omega), ho.heap h.now.cnt (by omega), h.now.sep, h.now.vsep, fun k e => Nat.lt_of_lt_of_le (h.now.vlt k e) ho.size, h.now.two⟩, h.only.trans ho (fun i hi e => by omega), h.vblk⟩
theorem only_set {w w2 w3 : World} {rb cb : Nat} (h : Only (fun k => k = rb ∨ k = cb) w w2) (ho : Only (fun k => w.heap.size ≤ k) w2 w3) : Only (fun k => k = rb ∨ k = cb) w w3 := h.trans ho (fun i hi e => by omega)
/-- five cells are written -/
theorem put5 {w : World} {b : Nat} {x0 x1 x2 x3 x4 : Value} {t : TypeId} (h : w.heap[b]? = some (.cells #[x0, x1, x2, x3, x4] t (0, 0))) (y0 y1 y2 y3 y4 : Value) :
    (((((w.setCell ⟨b, 0, none⟩ y0).setCell ⟨b, 1, none⟩ y1).setCell ⟨b, 2, none⟩ y2).setCell ⟨b, 3, none⟩ y3).setCell ⟨b, 4, none⟩ y4).heap[b]? = some (.cells #[y0, y1, y2, y3, y4] t (0, 0)) ∧
    Only (fun k => k = b) w (((((w.setCell ⟨b, 0, none⟩ y0).setCell ⟨b, 1, none⟩ y1).setCell ⟨b, 2, none⟩ y2).setCell ⟨b, 3, none⟩ y3).setCell ⟨b, 4, none⟩ y4) :=
  ⟨two_setCell (i := 4) (two_setCell (i := 3) (two_setCell (i := 2) (two_setCell (i := 1) (two_setCell (i := 0) h)))), ((((((Only.refl _ _).here 0 _).here 1 _).here 2 _).here 3 _).here 4 _)⟩
/-- the tables stand -/
theorem DTo.tabs {w w' : World} {db rb cb depth : Nat} {v v' : Value} {r : List UInt8} {c : Nat} (h : DTo w db rb cb depth v w' v' r c) (hT : Tabs w) : Tabs w' := hT.only h.only (fun k hk e => by have := h.now.two; omega)

/-- an item of naught -/
abbrev zeroI : Value := .agg #[.int .i64 0, .int .i64 0, .int .i64 0, .slice none 0 0, .slice none 0 0]

/-- what a reader answers -/
def ROut (w : World) (db rb cb depth : Nat) (v : Value) (m : Nat) (r : RB) (e : Ending) (w' : World) : Prop := match r with
  | .err er => e = .returned (.tuple #[zeroI, .int .i64 er]) ∧ Only (fun k => k = rb ∨ k = cb) w w'
  | .ok n d ks r' c' => ∃ dv kv v', e = .returned (.tuple #[.agg #[.int .i64 0, .int .i64 0, .int .i64 n, dv, kv], .int .i64 0]) ∧ ItAt (fun k => w.heap.size ≤ k) w' (m + 1) (.mk 0 0 n d ks) dv kv ∧ DTo w db rb cb depth v w' v' r' c'
/-- what item answers -/
def IOut (w : World) (db rb cb depth : Nat) (v : Value) (m : Nat) (r : RI) (e : Ending) (w' : World) : Prop := match r with
  | .err er => e = .returned (.tuple #[zeroI, .int .i64 er]) ∧ Only (fun k => k = rb ∨ k = cb) w w'
  | .ok it r' c' => ∃ dv kv v', e = .returned (.tuple #[ival it dv kv, .int .i64 0]) ∧ ItAt (fun k => w.heap.size ≤ k) w' (m + 1) it dv kv ∧ DTo w db rb cb depth v w' v' r' c'
theorem itAt_nil (Q : Nat → Prop) (w : World) (m : Nat) (t y n : Int) : ItAt Q w (m + 1) (.mk t y n [] []) (.slice none 0 0) (.slice none 0 0) := ⟨Or.inl ⟨rfl, rfl⟩, fun h => absurd rfl h, Or.inl ⟨rfl, rfl⟩⟩
theorem itAt_data {Q : Nat → Prop} {w : World} {dv : Value} {d : List UInt8} (m : Nat) (t y n : Int) (h : Has w dv d) (hq : ∀ k, blk dv = some k → Q k) : ItAt Q w (m + 1) (.mk t y n d []) dv (.slice none 0 0) := ⟨h, fun _ => hq, Or.inl ⟨rfl, rfl⟩⟩

theorem results_it2 {fn : Func} {t u : Tmp} (h : fn.results = #[.cell t 25, .tmp u]) (tmps : Array Value) (w : World) (b : Nat) (x y z : Int) (da : Option Addr) (dl dc : Nat) (ka : Option Addr) (kl kc : Nat) (ht : tmps[t]?.getD undef = .pointer (some ⟨b, 0, none⟩))
    (hc : w.cell? ⟨b, 0, none⟩ = some (.int .i64 x) ∧ w.cell? ⟨b, 1, none⟩ = some (.int .i64 y) ∧ w.cell? ⟨b, 2, none⟩ = some (.int .i64 z) ∧ w.cell? ⟨b, 3, none⟩ = some (.slice da dl dc) ∧ w.cell? ⟨b, 4, none⟩ = some (.slice ka kl kc)) :
    (results fn tmps).run Tryd.prog w = .ok (.tuple #[iv x y z da dl dc ka kl kc, tmps.getD u undef]) w := by
  obtain ⟨t0, t1, t2, t3, t4⟩ := hc
  simp [results, h, ht, go_sem, t0, t1, t2, t3, t4]
theorem results_it3 {fn : Func} {t u u' : Tmp} (h : fn.results = #[.cell t 25, .tmp u, .tmp u']) (tmps : Array Value) (w : World) (b : Nat) (x y z : Int) (da : Option Addr) (dl dc : Nat) (ka : Option Addr) (kl kc : Nat) (ht : tmps[t]?.getD undef = .pointer (some ⟨b, 0, none⟩))
    (hc : w.cell? ⟨b, 0, none⟩ = some (.int .i64 x) ∧ w.cell? ⟨b, 1, none⟩ = some (.int .i64 y) ∧ w.cell? ⟨b, 2, none⟩ = some (.int .i64 z) ∧ w.cell? ⟨b, 3, none⟩ = some (.slice da dl dc) ∧ w.cell? ⟨b, 4, none⟩ = some (.slice ka kl kc)) :
    (results fn tmps).run Tryd.prog w = .ok (.tuple #[iv x y z da dl dc ka kl kc, tmps.getD u undef, tmps.getD u' undef]) w := by
  obtain ⟨t0, t1, t2, t3, t4⟩ := hc
  simp [results, h, ht, go_sem, t0, t1, t2, t3, t4]

section
variable {w : World} {db rb cb depth : Nat} {v : Value} {r : List UInt8} {c : Nat}
theorem dc_u8 (h : DcAt w db rb cb depth v r c) (hl : 1 ≤ r.length) (hr : r.length ≤ 140737488355328) :
    Calls Tryd.prog 74 #[.pointer (some ⟨rb, 0, none⟩)] w fun e w' => e = .returned (.int .i64 (de (r.take 1))) ∧ ∃ v', DTo w db rb cb depth v w' v' (r.drop 1) c := by
  refine (RO.u8_any rb v false r w h.rd hr).mono ?_
  rintro e w' ⟨rfl, v', ht⟩
  obtain ⟨e1, e2, e3⟩ := RO.rd_yes r 1 hl
  rw [show ((1 : Nat) : Int) = 1 from rfl] at e1 e2 e3
  rw [e2, e3] at ht
  rw [e1]
  exact ⟨rfl, v', h.read ht⟩
theorem dc_u16 (h : DcAt w db rb cb depth v r c) (hl : 2 ≤ r.length) (hr : r.length ≤ 140737488355328) :
    Calls Tryd.prog 75 #[.pointer (some ⟨rb, 0, none⟩)] w fun e w' => e = .returned (.int .i64 (de (r.take 2))) ∧ ∃ v', DTo w db rb cb depth v w' v' (r.drop 2) c := by
  refine (RO.u16_any rb v false r w h.rd hr).mono ?_
  rintro e w' ⟨rfl, v', ht⟩
  obtain ⟨e1, e2, e3⟩ := RO.rd_yes r 2 hl
  rw [show ((2 : Nat) : Int) = 2 from rfl] at e1 e2 e3
  rw [e2, e3] at ht
  rw [e1]
  exact ⟨rfl, v', h.read ht⟩
theorem dc_u32 (h : DcAt w db rb cb depth v r c) (hl : 4 ≤ r.length) (hr : r.length ≤ 140737488355328) :
    Calls Tryd.prog 76 #[.pointer (some ⟨rb, 0, none⟩)] w fun e w' => e = .returned (.int .i64 (de (r.take 4))) ∧ ∃ v', DTo w db rb cb depth v w' v' (r.drop 4) c := by
  refine (RO.u32_any rb v false r w h.rd hr).mono ?_
  rintro e w' ⟨rfl, v', ht⟩
  obtain ⟨e1, e2, e3⟩ := RO.rd_yes r 4 hl
  rw [show ((4 : Nat) : Int) = 4 from rfl] at e1 e2 e3
  rw [e2, e3] at ht
  rw [e1]
  exact ⟨rfl, v', h.read ht⟩
theorem dc_u64 (h : DcAt w db rb cb depth v r c) (hl : 8 ≤ r.length) (hr : r.length ≤ 140737488355328) :
    Calls Tryd.prog 80 #[.pointer (some ⟨rb, 0, none⟩)] w fun e w' => e = .returned (.int .u64 (de (r.take 8))) ∧ ∃ v', DTo w db rb cb depth v w' v' (r.drop 8) c := by
  refine (RO.u64_any rb v false r w h.rd hr).mono ?_
  rintro e w' ⟨rfl, v', ht⟩
  obtain ⟨e1, e2, e3⟩ := RO.rd_yes r 8 hl
  rw [show ((8 : Nat) : Int) = 8 from rfl] at e1 e2 e3
  rw [e2, e3] at ht
  rw [e1]
  exact ⟨rfl, v', h.read ht⟩
theorem dc_raw (h : DcAt w db rb cb depth v r c) (L : Nat) (hl : L ≤ r.length) (hr : r.length ≤ 140737488355328) :
    Calls Tryd.prog 79 #[.pointer (some ⟨rb, 0, none⟩), .int .i64 L] w fun e w' => ∃ u, e = .returned u ∧ Has w' u (r.take L) ∧ (∀ k, blk u = some k → w.heap.size ≤ k) ∧ ∃ v', DTo w db rb cb depth v w' v' (r.drop L) c := by
  refine (RO.raw_any rb v false r L w h.rd hr).mono ?_
  rintro e w' ⟨u, rfl, hu, v', ht⟩
  obtain ⟨e1, e2, e3⟩ := RO.rd_yes r L hl
  rw [e2, e3] at ht
  rw [e1] at hu
  exact ⟨u, rfl, Has.ofOwns hu, fun k hk => (hu.lt k (by obtain ⟨ao, cap, rfl⟩ := ownsRow_shape hu; rcases hu.2 with ⟨e, _⟩ | ⟨g, cap', cur, e, _⟩ <;> simp only [Value.slice.injEq] at e <;> obtain ⟨rfl, _, _⟩ := e <;> simp_all [blk, Value.ownBlock])).1, v', h.read ht⟩
theorem dc_left (h : DcAt w db rb cb depth v r c) : Calls Tryd.prog 26 #[.pointer (some ⟨rb, 0, none⟩)] w fun e w' => e = .returned (.int .i64 r.length) ∧ w' = w := RO.left_any rb v false r w h.rd
end

section
variable {w : World} {db rb cb depth : Nat} {v : Value} {r : List UInt8} {c : Nat}
theorem rdr_narrow (n : Nat) (y : Int) (L : Nat) (r : List UInt8) (c : Nat) (hy : y = 2 ∨ y = 5 ∨ y = 10) (hL : L ≤ r.length) : rdr n y L r c = if L = 4 then .ok (numOf y (r.take 4)) [] [] (r.drop 4) c else .err 5 := by
  have h1 : ¬ y = 1 := by omega
  have h2 : ¬ isData y := by unfold isData; omega
  have h3 : isNarrow y := hy
  unfold rdr leafB lenB leafN leafD
  rw [if_neg h1, if_neg h2, if_neg h2, if_pos h3, List.length_take, Nat.min_eq_left hL, if_neg h2, if_neg h2]
  by_cases h4 : L = 4
  · subst h4
    have hd := de_take_lt r 4
    rw [if_pos rfl, decide_eq_true rfl, Bool.true_and, if_pos]
    unfold bodyB
    rw [if_neg h1, if_neg h2]
    simp only [List.length_nil, decide_true, Bool.true_and]
    rw [show (256 : Nat) ^ 4 = 4294967296 from rfl] at hd
    unfold numOf
    rcases hy with rfl | rfl | rfl
    · rw [if_pos rfl, if_pos rfl, Bool.and_eq_true, decide_eq_true_eq, decide_eq_true_eq]; unfold sgn; split <;> omega
    · rw [if_neg (by decide), if_pos (by decide), if_neg (by decide), if_pos (by decide), Bool.and_eq_true, decide_eq_true_eq, decide_eq_true_eq]; omega
    · rw [if_neg (by decide), if_pos (by decide), if_neg (by decide), if_pos (by decide), Bool.and_eq_true, decide_eq_true_eq, decide_eq_true_eq]; omega
  · rw [if_neg h4, decide_eq_false h4, Bool.false_and, if_neg (by decide)]
theorem rdr_wide (n : Nat) (y : Int) (L : Nat) (r : List UInt8) (c : Nat) (hy : y = 3 ∨ y = 9) (hL : L ≤ r.length) : rdr n y L r c = if L = 8 then .ok (numOf 3 (r.take 8)) [] [] (r.drop 8) c else .err 5 := by
  have h1 : ¬ y = 1 := by omega
  have h2 : ¬ isData y := by unfold isData; omega
  have h3 : ¬ isNarrow y := by unfold isNarrow; omega
  unfold rdr leafB lenB leafN leafD
  rw [if_neg h1, if_neg h2, if_neg h2, if_neg h3, List.length_take, Nat.min_eq_left hL, if_neg h2, if_neg h2]
  by_cases h4 : L = 8
  · subst h4
    rw [if_pos rfl, decide_eq_true rfl, Bool.true_and, if_pos]
    · unfold numOf; rw [if_neg (by omega), if_neg h3, if_neg (by decide), if_neg (by decide)]
    · unfold bodyB; rw [if_neg h1, if_neg h2]; rcases hy with rfl | rfl <;> simp
  · rw [if_neg h4, decide_eq_false h4, Bool.false_and, if_neg (by decide)]
theorem rdr_bool (n : Nat) (L : Nat) (r : List UInt8) (c : Nat) (hL : L ≤ r.length) : rdr n 6 L r c = if L = 8 ∧ (numOf 3 (r.take 8) = 0 ∨ numOf 3 (r.take 8) = 1) then .ok (numOf 3 (r.take 8)) [] [] (r.drop 8) c else .err 5 := by
  have h2 : ¬ isData 6 := by decide
  have h3 : ¬ isNarrow 6 := by decide
  have e : ∀ b, numOf 6 b = numOf 3 b := fun b => by unfold numOf; rw [if_neg (by decide), if_neg (by decide), if_neg (by decide), if_neg (by decide)]
  have eb : ∀ x, bodyB 6 x [] 0 = (decide (x = 0) || decide (x = 1)) := fun x => by simp [bodyB, isData]
  unfold rdr leafB lenB leafN leafD
  rw [if_neg (by decide), if_neg h2, if_neg h2, if_neg h3, List.length_take, Nat.min_eq_left hL, if_neg h2, if_neg h2, e, eb]
  by_cases h4 : L = 8
  · subst h4
    by_cases h5 : numOf 3 (r.take 8) = 0 ∨ numOf 3 (r.take 8) = 1
    · rw [if_pos (show (8 = 8) ∧ (numOf 3 (r.take 8) = 0 ∨ numOf 3 (r.take 8) = 1) from ⟨rfl, h5⟩), if_pos (by simpa using h5)]
    · rw [if_neg (show ¬ ((8 = 8) ∧ (numOf 3 (r.take 8) = 0 ∨ numOf 3 (r.take 8) = 1)) from fun h => h5 h.2), if_neg (by simpa using h5)]
  · rw [if_neg (show ¬ (L = 8 ∧ (numOf 3 (r.take 8) = 0 ∨ numOf 3 (r.take 8) = 1)) from fun h => h4 h.1), decide_eq_false h4, Bool.false_and, if_neg (by decide)]
theorem rdr_data (n : Nat) (y : Int) (L : Nat) (r : List UInt8) (c : Nat) (hy : isData y) : rdr n y L r c = if bodyB y 0 (r.take L) 0 = true then .ok 0 (r.take L) [] (r.drop L) c else .err 5 := by
  have h1 : ¬ y = 1 := by unfold isData at hy; omega
  unfold rdr leafB lenB leafN leafD
  rw [if_neg h1, if_pos hy, if_pos hy, if_pos hy, if_pos hy, Bool.true_and]

theorem rOut_err {w w' : World} {db rb cb depth : Nat} {v : Value} {m : Nat} {r : RB} {er : Int} (h : r = .err er) (ho : Only (fun k => k = rb ∨ k = cb) w w') : ROut w db rb cb depth v m r (.returned (.tuple #[zeroI, .int .i64 er])) w' := by rw [h]; exact ⟨rfl, ho⟩
theorem rOut_ok {w w' : World} {db rb cb depth : Nat} {v v' : Value} {m : Nat} {r : RB} {n : Int} {d : List UInt8} {ks : List It} {r' : List UInt8} {c' : Nat} {dv kv : Value} (h : r = .ok n d ks r' c') (hi : ItAt (fun k => w.heap.size ≤ k) w' (m + 1) (.mk 0 0 n d ks) dv kv) (ht : DTo w db rb cb depth v w' v' r' c') : ROut w db rb cb depth v m r (.returned (.tuple #[.agg #[.int .i64 0, .int .i64 0, .int .i64 n, dv, kv], .int .i64 0])) w' := by rw [h]; exact ⟨dv, kv, v', rfl, hi, ht⟩

theorem noughts (w : World) : ((w.alloc (.cells #[.int .i64 0, .int .i64 0, .int .i64 0, .slice none 0 0, .slice none 0 0] 25)).cell? ⟨w.heap.size, 0, none⟩ = some (.int .i64 0) ∧ (w.alloc (.cells #[.int .i64 0, .int .i64 0, .int .i64 0, .slice none 0 0, .slice none 0 0] 25)).cell? ⟨w.heap.size, 1, none⟩ = some (.int .i64 0) ∧ (w.alloc (.cells #[.int .i64 0, .int .i64 0, .int .i64 0, .slice none 0 0, .slice none 0 0] 25)).cell? ⟨w.heap.size, 2, none⟩ = some (.int .i64 0) ∧ (w.alloc (.cells #[.int .i64 0, .int .i64 0, .int .i64 0, .slice none 0 0, .slice none 0 0] 25)).cell? ⟨w.heap.size, 3, none⟩ = some (.slice none 0 0) ∧ (w.alloc (.cells #[.int .i64 0, .int .i64 0, .int .i64 0, .slice none 0 0, .slice none 0 0] 25)).cell? ⟨w.heap.size, 4, none⟩ = some (.slice none 0 0)) := (boxed w _ _ _ _ _).1


theorem zeroed (h : DcAt w db rb cb depth v r c) : ∃ w1, w1 = w.alloc (.cells #[.int .i64 0, .int .i64 0, .int .i64 0, .slice none 0 0, .slice none 0 0] 25) ∧ DcAt w1 db rb cb depth v r c ∧ w1.heap[w.heap.size]? = some (.cells #[.int .i64 0, .int .i64 0, .int .i64 0, .slice none 0 0, .slice none 0 0] 25 (0, 0)) ∧ Only (fun _ => False) w w1 :=
  ⟨_, rfl, h.same ((Only.refl _ _).alloc _), heap_alloc_new _ _, (Only.refl _ _).alloc _⟩

set_option maxHeartbeats 1000000 in
theorem signed_any (h : DcAt w db rb cb depth v r c) (L m : Nat) (hL : L ≤ r.length) (hr : r.length ≤ 140737488355328) :
    Calls Tryd.prog 42 #[.pointer (some ⟨db, 0, none⟩), .int .i64 L] w (ROut w db rb cb depth v m (if L = 4 then .ok (sgn 4294967296 (de (r.take 4))) [] [] (r.drop 4) c else .err 5)) := by
  obtain ⟨w1, hw1, h1, hb, o1⟩ := zeroed h
  obtain ⟨c0, c1, c2, c3, c4⟩ := h1.cells
  obtain ⟨R, hE⟩ : ∃ R, (if L = 4 then RB.ok (sgn 4294967296 (de (r.take 4))) [] [] (r.drop 4) c else .err 5) = R := ⟨_, rfl⟩
  rw [hE]
  have HE := hide hE
  have HD := hide h
  have HD1 := hide h1
  have HB := hide hb
  have HO := hide o1
  clear h h1 hE hb o1
  by_cases h4 : L = 4
  case neg =>
    have e4 : ((L : Int) == 4) = false := by rw [beq_eq_false_iff_ne]; omega
    rw [if_neg h4] at HE
    clear h4
    subst hw1
    go_enter Tryd.func42, Tryd.ntmps42
    go_wp2
    refine bodyPost_ret (results_it2 rfl _ _ w.heap.size 0 0 0 none 0 0 none 0 0 rfl (cells_of5 (unhide HB))) rfl ?_
    exact rOut_err (unhide HE).symm ((unhide HO).mono (fun _ _ e => e.elim))
  case pos =>
    subst h4
    rw [if_pos rfl] at HE
    have HU := hide (dc_u32 (unhide HD1) hL hr)
    have hk : ((4 : Nat) : Int) = 4 := rfl
    rw [hk]
    clear hk
    go_enter Tryd.func42, Tryd.ntmps42
    subst hw1
    go_wp2_with fail
    refine (unhide HU).mono ?_
    rintro e w2 ⟨rfl, v2, hd2⟩
    have hne : ¬ (w.heap.size = rb ∨ w.heap.size = cb) := by
      have h1 := lt_of_block (unhide HD).rd.blk
      have h2 := lt_of_block (unhide HD).cnt
      omega
    have hb2 := hd2.only.heap (unhide HB) hne
    obtain ⟨s0, s1, s2, s3, s4⟩ := cells_of5 hb2
    have hf : ∀ i, w2.frozen? ⟨w.heap.size, i, none⟩ = false := by simp [World.frozen?, hb2]
    have HB2 := hide hb2
    have HT := hide (((unhide HD).to (unhide HO)).trans hd2)
    clear hd2 hb2 c0 c1 c2 c3 c4 HU
    have hdl := de_take_lt r 4
    generalize de (r.take 4) = x at *
    obtain ⟨z, hz⟩ : ∃ z, IntKind.i32.wrap (x : Int) = z := ⟨_, rfl⟩
    have hzz : sgn 4294967296 x = z := by rw [← hz, IntKind.wrap_i32]; rw [show (256 : Nat) ^ 4 = 4294967296 from rfl] at hdl; unfold sgn; split <;> omega
    have hw6 : wrap64 z = z := by rw [← hz, IntKind.wrap_i32]; unfold wrap64; omega
    rw [hzz] at HE
    clear hzz hdl
    go_wp2
    obtain ⟨hb3, o3⟩ := put5 (unhide HB2) (.int .i64 0) (.int .i64 0) (.int .i64 (z)) (.slice none 0 0) (.slice none 0 0)
    refine bodyPost_ret (results_it2 rfl _ _ w.heap.size 0 0 (z) none 0 0 none 0 0 rfl (cells_of5 hb3)) rfl ?_
    exact rOut_ok (unhide HE).symm (itAt_nil _ _ _ _ _ _) ((unhide HD).set (unhide HT) (o3.mono (fun k _ e => by omega)))

set_option maxHeartbeats 1000000 in
theorem unsigned_any (h : DcAt w db rb cb depth v r c) (L m : Nat) (hL : L ≤ r.length) (hr : r.length ≤ 140737488355328) :
    Calls Tryd.prog 45 #[.pointer (some ⟨db, 0, none⟩), .int .i64 L] w (ROut w db rb cb depth v m (if L = 4 then .ok ((de (r.take 4) : Int)) [] [] (r.drop 4) c else .err 5)) := by
  obtain ⟨w1, hw1, h1, hb, o1⟩ := zeroed h
  obtain ⟨c0, c1, c2, c3, c4⟩ := h1.cells
  obtain ⟨R, hE⟩ : ∃ R, (if L = 4 then RB.ok ((de (r.take 4) : Int)) [] [] (r.drop 4) c else .err 5) = R := ⟨_, rfl⟩
  rw [hE]
  have HE := hide hE
  have HD := hide h
  have HD1 := hide h1
  have HB := hide hb
  have HO := hide o1
  clear h h1 hE hb o1
  by_cases h4 : L = 4
  case neg =>
    have e4 : ((L : Int) == 4) = false := by rw [beq_eq_false_iff_ne]; omega
    rw [if_neg h4] at HE
    clear h4
    subst hw1
    go_enter Tryd.func45, Tryd.ntmps45
    go_wp2
    refine bodyPost_ret (results_it2 rfl _ _ w.heap.size 0 0 0 none 0 0 none 0 0 rfl (cells_of5 (unhide HB))) rfl ?_
    exact rOut_err (unhide HE).symm ((unhide HO).mono (fun _ _ e => e.elim))
  case pos =>
    subst h4
    rw [if_pos rfl] at HE
    have HU := hide (dc_u32 (unhide HD1) hL hr)
    have hk : ((4 : Nat) : Int) = 4 := rfl
    rw [hk]
    clear hk
    go_enter Tryd.func45, Tryd.ntmps45
    subst hw1
    go_wp2_with fail
    refine (unhide HU).mono ?_
    rintro e w2 ⟨rfl, v2, hd2⟩
    have hne : ¬ (w.heap.size = rb ∨ w.heap.size = cb) := by
      have h1 := lt_of_block (unhide HD).rd.blk
      have h2 := lt_of_block (unhide HD).cnt
      omega
    have hb2 := hd2.only.heap (unhide HB) hne
    obtain ⟨s0, s1, s2, s3, s4⟩ := cells_of5 hb2
    have hf : ∀ i, w2.frozen? ⟨w.heap.size, i, none⟩ = false := by simp [World.frozen?, hb2]
    have HB2 := hide hb2
    have HT := hide (((unhide HD).to (unhide HO)).trans hd2)
    clear hd2 hb2 c0 c1 c2 c3 c4 HU
    generalize de (r.take 4) = x at *
    go_wp2
    obtain ⟨hb3, o3⟩ := put5 (unhide HB2) (.int .i64 0) (.int .i64 0) (.int .i64 ((x : Int))) (.slice none 0 0) (.slice none 0 0)
    refine bodyPost_ret (results_it2 rfl _ _ w.heap.size 0 0 ((x : Int)) none 0 0 none 0 0 rfl (cells_of5 hb3)) rfl ?_
    exact rOut_ok (unhide HE).symm (itAt_nil _ _ _ _ _ _) ((unhide HD).set (unhide HT) (o3.mono (fun k _ e => by omega)))

set_option maxHeartbeats 1000000 in
theorem number_any (h : DcAt w db rb cb depth v r c) (L m : Nat) (hL : L ≤ r.length) (hr : r.length ≤ 140737488355328) :
    Calls Tryd.prog 43 #[.pointer (some ⟨db, 0, none⟩), .int .i64 L] w (ROut w db rb cb depth v m (if L = 8 then .ok (sgn 18446744073709551616 (de (r.take 8))) [] [] (r.drop 8) c else .err 5)) := by
  obtain ⟨w1, hw1, h1, hb, o1⟩ := zeroed h
  obtain ⟨c0, c1, c2, c3, c4⟩ := h1.cells
  obtain ⟨R, hE⟩ : ∃ R, (if L = 8 then RB.ok (sgn 18446744073709551616 (de (r.take 8))) [] [] (r.drop 8) c else .err 5) = R := ⟨_, rfl⟩
  rw [hE]
  have HE := hide hE
  have HD := hide h
  have HD1 := hide h1
  have HB := hide hb
  have HO := hide o1
  clear h h1 hE hb o1
  by_cases h4 : L = 8
  case neg =>
    have e4 : ((L : Int) == 8) = false := by rw [beq_eq_false_iff_ne]; omega
    rw [if_neg h4] at HE
    clear h4
    subst hw1
    go_enter Tryd.func43, Tryd.ntmps43
    go_wp2
    refine bodyPost_ret (results_it2 rfl _ _ w.heap.size 0 0 0 none 0 0 none 0 0 rfl (cells_of5 (unhide HB))) rfl ?_
    exact rOut_err (unhide HE).symm ((unhide HO).mono (fun _ _ e => e.elim))
  case pos =>
    subst h4
    rw [if_pos rfl] at HE
    have HU := hide (dc_u64 (unhide HD1) hL hr)
    have hk : ((8 : Nat) : Int) = 8 := rfl
    rw [hk]
    clear hk
    go_enter Tryd.func43, Tryd.ntmps43
    subst hw1
    go_wp2_with fail
    refine (unhide HU).mono ?_
    rintro e w2 ⟨rfl, v2, hd2⟩
    have hne : ¬ (w.heap.size = rb ∨ w.heap.size = cb) := by
      have h1 := lt_of_block (unhide HD).rd.blk
      have h2 := lt_of_block (unhide HD).cnt
      omega
    have hb2 := hd2.only.heap (unhide HB) hne
    obtain ⟨s0, s1, s2, s3, s4⟩ := cells_of5 hb2
    have hf : ∀ i, w2.frozen? ⟨w.heap.size, i, none⟩ = false := by simp [World.frozen?, hb2]
    have HB2 := hide hb2
    have HT := hide (((unhide HD).to (unhide HO)).trans hd2)
    clear hd2 hb2 c0 c1 c2 c3 c4 HU
    have hdl := de_take_lt r 8
    generalize de (r.take 8) = x at *
    obtain ⟨z, hz⟩ : ∃ z, wrap64 (x : Int) = z := ⟨_, rfl⟩
    have hzz : sgn 18446744073709551616 x = z := by rw [← hz]; unfold wrap64; rw [show (256 : Nat) ^ 8 = 18446744073709551616 from rfl] at hdl; unfold sgn; split <;> omega
    rw [hzz] at HE
    clear hzz hdl
    go_wp2
    obtain ⟨hb3, o3⟩ := put5 (unhide HB2) (.int .i64 0) (.int .i64 0) (.int .i64 (z)) (.slice none 0 0) (.slice none 0 0)
    refine bodyPost_ret (results_it2 rfl _ _ w.heap.size 0 0 (z) none 0 0 none 0 0 rfl (cells_of5 hb3)) rfl ?_
    exact rOut_ok (unhide HE).symm (itAt_nil _ _ _ _ _ _) ((unhide HD).set (unhide HT) (o3.mono (fun k _ e => by omega)))

set_option maxHeartbeats 1000000 in
theorem data_any (h : DcAt w db rb cb depth v r c) (L m : Nat) (hL : L ≤ r.length) (hr : r.length ≤ 140737488355328) :
    Calls Tryd.prog 48 #[.pointer (some ⟨db, 0, none⟩), .int .i64 L] w (ROut w db rb cb depth v m (.ok 0 (r.take L) [] (r.drop L) c)) := by
  obtain ⟨w1, hw1, h1, hb, o1⟩ := zeroed h
  obtain ⟨c0, c1, c2, c3, c4⟩ := h1.cells
  obtain ⟨R, hE⟩ : ∃ R, RB.ok 0 (r.take L) [] (r.drop L) c = R := ⟨_, rfl⟩
  rw [hE]
  have HE := hide hE
  have HD := hide h
  have HB := hide hb
  have HO := hide o1
  have HU := hide (dc_raw h1 L hL hr)
  have hs1 := o1.size
  clear h h1 hE hb o1
  go_enter Tryd.func48, Tryd.ntmps48
  subst hw1
  go_wp2_with fail
  refine (unhide HU).mono ?_
  rintro e w2 ⟨u, rfl, hu, huk, v2, hd2⟩
  obtain ⟨ua, uc, hus, _⟩ := hu.shape
  subst hus
  have hne : ¬ (w.heap.size = rb ∨ w.heap.size = cb) := by
    have h1 := lt_of_block (unhide HD).rd.blk
    have h2 := lt_of_block (unhide HD).cnt
    omega
  have hb2 := hd2.only.heap (unhide HB) hne
  obtain ⟨s0, s1, s2, s3, s4⟩ := cells_of5 hb2
  have hf : ∀ i, w2.frozen? ⟨w.heap.size, i, none⟩ = false := by simp [World.frozen?, hb2]
  have HB2 := hide hb2
  have HT := hide (((unhide HD).to (unhide HO)).trans hd2)
  have HUk : Hid (∀ k, blk (.slice ua (r.take L).length uc) = some k → w.heap.size ≤ k ∧ k ≠ w.heap.size) := fun k hk => by have := huk k hk; simp at this; omega
  have HH := hide hu
  clear hd2 hb2 c0 c1 c2 c3 c4 HU hu huk hs1
  generalize (r.take L).length = ul at *
  go_wp2
  obtain ⟨hb3, o3⟩ := put5 (unhide HB2) (.int .i64 0) (.int .i64 0) (.int .i64 0) (.slice ua ul uc) (.slice none 0 0)
  refine bodyPost_ret (results_it2 rfl _ _ w.heap.size 0 0 0 ua ul uc none 0 0 rfl (cells_of5 hb3)) rfl ?_
  exact rOut_ok (unhide HE).symm (itAt_data _ _ _ _ ((unhide HH).only o3 (fun _ k hk e => (unhide HUk k hk).2 e)) (fun k hk => (unhide HUk k hk).1)) ((unhide HD).set (unhide HT) (o3.mono (fun k _ e => by omega)))
end
end Tt
end Go.Proofs.YtedmfjnmclbkpaaDoor
