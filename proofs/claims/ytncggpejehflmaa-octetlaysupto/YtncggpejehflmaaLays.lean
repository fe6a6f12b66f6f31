/-
  OctetLays: the walk.
-/
import Derived.Test.YtncggpejehflmaaKnown
import Derived.Test.YtncggpejehflmaaCallsR
import Derived.Test.YtncggpejehflmaaHand
import Derived.Test.YtncggpejehflmaaArgs
import Derived.Deep.RegionWith
import Derived.Deep.QuietTactic
import Derived.BigQuiet
namespace Go.Proofs.Ytncggpejehflmaa
open Go.RowKit
set_option linter.unusedSimpArgs false
set_option linter.unusedVariables false

/-- two writers side by side, with the same bytes -/
structure TwoW (w wr : World) (wb rb : Nat) (v s : Value) (bs : List UInt8) : Prop where
  x : WrAt 57 wr wb v bs
  r : WrAt 35 wr rb s bs
  only : Only (fun _ => False) w wr
  xn : w.heap.size ≤ wb
  rn : w.heap.size ≤ rb
  xo : ∀ k, v.ownBlock = some k → w.heap.size ≤ k
  ro : ∀ k, s.ownBlock = some k → w.heap.size ≤ k
  ne : ∀ k, v.ownBlock = some k → s.ownBlock ≠ some k

/-- two blocks of unlike types are two -/
theorem block_ne {w : World} {a b : Nat} {c d : Array Value} {s t : TypeId} {p q : Nat × Nat} (h : w.heap[a]? = some (.cells c s p)) (k : w.heap[b]? = some (.cells d t q)) (hst : s ≠ t) : a ≠ b := by
  intro e
  subst e
  rw [h] at k
  simp at k
  exact hst k.2.1

theorem own_block {w : World} {base e n : Nat} {v : Value} {xs : List Value} (h : w.ownsRow base e 1 v n xs) {k : Nat} (hk : v.ownBlock = some k) : ∃ cur, w.heap[k]? = some (.cells cur e (0, 0)) := by
  rcases h.2 with ⟨rfl, _⟩ | ⟨g, cap, cur, rfl, _, hg, _⟩
  · simp [Value.ownBlock] at hk
  · simp [Value.ownBlock] at hk
    subst hk
    exact ⟨cur, hg⟩

theorem TwoW.mid {w wr w1 : World} {wb rb : Nat} {v r v1 : Value} {bs cs : List UInt8} (h : TwoW w wr wb rb v r bs) (hx : Wrote 57 wr wb v w1 v1 cs) :
    WrAt 35 w1 rb r bs ∧ Only (fun _ => False) w w1 ∧ (∀ k, v1.ownBlock = some k → r.ownBlock ≠ some k) := by
  refine ⟨h.r.only hx.only ?_ ?_, h.only.trans hx.only ?_, ?_⟩
  · rintro (e | e)
    · exact block_ne h.r.blk h.x.blk (by decide) e
    · obtain ⟨cur, hc⟩ := own_block h.x.own e
      exact block_ne h.r.blk hc (by decide) rfl
  · rintro k hk (e | e)
    · obtain ⟨cur, hc⟩ := own_block h.r.own hk
      exact block_ne hc h.x.blk (by decide) e
    · exact h.ne k e hk
  · rintro i hi (e | e)
    · have := h.xn; omega
    · have := h.xo i e; omega
  · intro k hk e
    rcases hx.fresh k hk with f | f
    · exact h.ne k f e
    · have := (h.r.own.lt k e).2; omega

theorem TwoW.step {w wr w1 w2 : World} {wb rb : Nat} {v r v1 r2 : Value} {bs cs : List UInt8} (h : TwoW w wr wb rb v r bs) (hx : Wrote 57 wr wb v w1 v1 cs) (hr : Wrote 35 w1 rb r w2 r2 cs) :
    TwoW w w2 wb rb v1 r2 cs := by
  obtain ⟨m1, m2, m3⟩ := h.mid hx
  refine ⟨hx.now.only hr.only ?_ ?_, hr.now, m2.trans hr.only ?_, h.xn, h.rn, ?_, ?_, ?_⟩
  · rintro (e | e)
    · exact block_ne hx.now.blk m1.blk (by decide) e
    · obtain ⟨cur, hc⟩ := own_block m1.own e
      exact block_ne hx.now.blk hc (by decide) rfl
  · rintro k hk (e | e)
    · obtain ⟨cur, hc⟩ := own_block hx.now.own hk
      exact block_ne hc m1.blk (by decide) e
    · exact m3 k hk e
  · rintro i hi (e | e)
    · have := h.rn; omega
    · have := h.ro i e; omega
  · intro k hk
    rcases hx.fresh k hk with f | f
    · exact h.xo k f
    · exact Nat.le_trans h.only.size f
  · intro k hk
    rcases hr.fresh k hk with f | f
    · exact h.ro k f
    · exact Nat.le_trans m2.size f
  · intro k hk e
    rcases hr.fresh k e with f | f
    · exact m3 k hk f
    · have := (hx.now.own.lt k hk).2; omega

theorem TwoW.later {w wr w1 : World} {wb rb : Nat} {v r : Value} {bs : List UInt8} (h : TwoW w wr wb rb v r bs) (ho : Only (fun _ => False) wr w1) : TwoW w w1 wb rb v r bs :=
  ⟨h.x.only ho (fun h => h) (fun _ _ h => h), h.r.only ho (fun h => h) (fun _ _ h => h), h.only.trans ho (fun _ _ e => e), h.xn, h.rn, h.xo, h.ro, h.ne⟩

theorem Only.drewN' {S : Nat → Prop} {w : World} (n : Nat) : Only S w (w.drewN n) := ⟨rfl, rfl, rfl, Nat.le_refl _, fun _ _ _ => rfl⟩

theorem TwoW.drewN {w wr : World} {wb rb : Nat} {v r : Value} {bs : List UInt8} (h : TwoW w wr wb rb v r bs) (n : Nat) : TwoW w (wr.drewN n) wb rb v r bs := h.later (Only.drewN' n)

theorem StepsAt.later2 {w w' : World} {v : Value} {m : Nat} {A : Nat → Int} {N : Nat → Nat} {V : Nat → Value} {Bs : Nat → List UInt8} (h : StepsAt w v m A N V Bs) (ho : Only (fun _ => False) w w') : StepsAt w' v m A N V Bs := by
  obtain ⟨ao, cap, hv, hl, hm, hc⟩ := h.shape
  refine ⟨⟨ao, cap, hv, hl, hm, fun h0 => ?_⟩, fun i hi => (h.has i hi).only ho (fun _ _ _ h => h), h.num⟩
  obtain ⟨bb, off, e, hb, hcell⟩ := hc h0
  exact ⟨bb, off, e, Nat.lt_of_lt_of_le hb ho.size, fun i hi => ⟨ho.cell (hcell i hi).1 (fun h => h), ho.cell (hcell i hi).2.1 (fun h => h), ho.cell (hcell i hi).2.2 (fun h => h)⟩⟩

theorem cells_three' {w : World} {b : Nat} {x y z : Value} {t : TypeId} (h : w.heap[b]? = some (.cells #[x, y, z] t (0, 0))) :
    w.cell? ⟨b, 0, none⟩ = some x ∧ w.cell? ⟨b, 1, none⟩ = some y ∧ w.cell? ⟨b, 2, none⟩ = some z := by
  simp [World.cell?, h]

/-- a block of a third type stays as the first writer writes -/
theorem TwoW.local {w wr w1 : World} {wb rb lb : Nat} {v r v1 : Value} {bs cs : List UInt8} {c : Array Value} {t : TypeId} (h : TwoW w wr wb rb v r bs) (hx : Wrote 57 wr wb v w1 v1 cs) (hl : wr.heap[lb]? = some (.cells c t (0, 0)))
    (h1 : t ≠ 57) (h2 : t ≠ 5) : w1.heap[lb]? = some (.cells c t (0, 0)) :=
  hx.only.heap hl (by
    rintro (e | e)
    · exact block_ne hl h.x.blk h1 e
    · obtain ⟨cur, hc⟩ := own_block h.x.own e
      exact block_ne hl hc h2 rfl)

/-- block g is a whole row of n bytes of the call's own -/
structure OwnsN (base : Nat) (w : World) (g n : Nat) (cs : List UInt8) : Prop where
  len : cs.length = n
  own : w.ownsRow base 5 1 (.slice (some ⟨g, 0, none⟩) n n) n (cs.map bv)

theorem OwnsN.cell {base : Nat} {w : World} {g n : Nat} {cs : List UInt8} (h : OwnsN base w g n cs) (j : Nat) (hj : j < cs.length) : w.cell? ⟨g, j, none⟩ = some (.int .u8 ((cs[j]'hj).toNat : Int)) := by
  have hn := h.len
  rw [h.own.cellAt j (by omega)]
  simp [hj, bv]

theorem OwnsN.frozen {base : Nat} {w : World} {g n : Nat} {cs : List UInt8} (h : OwnsN base w g n cs) (j : Nat) : w.frozen? ⟨g, j, none⟩ = false := h.own.frozenAt j

theorem OwnsN.stored {base : Nat} {w : World} {g n : Nat} {cs : List UInt8} (h : OwnsN base w g n cs) (j : Nat) (hj : j < cs.length) :
    OwnsN base (w.setCell ⟨g, j, none⟩ (.int .u8 (bits BinOp.xor .u8 ((cs[j]'hj).toNat : Int) 1))) g n (cs.set j (UInt8.ofNat ((cs[j]'hj).toNat ^^^ 1))) := by
  refine ⟨by simp [h.len], ?_⟩
  have h1 := (h.own.stored j (.int .u8 (bits BinOp.xor .u8 ((cs[j]'hj).toNat : Int) 1))).1
  have hb := (cs[j]'hj).toNat_lt
  have hx : (cs[j]'hj).toNat ^^^ 1 < 256 := Nat.xor_lt_two_pow (n := 8) hb (by decide)
  have e : Value.int .u8 (bits BinOp.xor .u8 ((cs[j]'hj).toNat : Int) 1) = bv (UInt8.ofNat ((cs[j]'hj).toNat ^^^ 1)) := by
    have := u8_xor_nat (cs[j]'hj).toNat 1 (by omega) (by omega)
    rw [show (1 : Int) = ((1 : Nat) : Int) from rfl, this]
    unfold bv
    congr 2
    simp
  rw [e] at h1
  rw [e, List.map_set]
  exact h1

set_option maxHeartbeats 4000000 in
set_option maxRecDepth 100000 in
theorem lays_any (lv : Value) (long : Bool) (m : Nat) (A : Nat → Int) (N : Nat → Nat) (V : Nat → Value) (Bs : Nat → List UInt8) (w : World) (hl : StepsAt w lv m A N V Bs) (hbd : ∀ i, i < m → (Bs i).length ≤ 1048576) :
    Calls Try.prog 4 #[lv, .bool long] w fun e w' => e = .returned (.bool true) ∧ Only (fun _ => False) w w' := by
  have HL := hide hl
  have HB := hide hbd
  obtain ⟨lo, lc, hlv, _, _, _⟩ := hl.shape
  subst hlv
  clear hl hbd
  go_enter Try.func4, Try.ntmps4
  go_wp2_with fail
  refine (newWriter_any w).mono ?_
  rintro e w1 ⟨rfl, h1, o1⟩
  have H1 := hide h1
  clear h1
  go_wp2_with fail
  refine (known_any w1).mono ?_
  rintro e w2 ⟨rfl, o2⟩
  have h2 := (unhide H1).only o2 (fun h => h) (fun _ _ h => h)
  have o2' := o1.trans o2 (fun _ _ e => e)
  have hlt2 := lt_of_block h2.blk
  have HT0 : Hid (TwoW w (w2.alloc (.cells #[.slice none 0 0] 35)) w.heap.size w2.heap.size (.slice none 0 0) (.slice none 0 0) []) :=
    ⟨h2.push rfl, ⟨heap_alloc_new _ _, World.ownsRow_nil _ _ _ _⟩, o2'.alloc _, Nat.le_refl _, o2'.size, fun k hk => (by cases hk), fun k hk => (by cases hk), fun k hk => (by cases hk)⟩
  clear H1 o1 o2 h2 o2'
  go_wp2
  go_loopg [7] 40 (fun g i wr => ∃ (k : Nat) (v r : Value) (bs : List UInt8), k + g = 40 ∧ i = .int .i64 k ∧ TwoW w wr w.heap.size w2.heap.size v r bs ∧ bs.length ≤ k * 1048600)
  case atStart => exact ⟨0, _, _, _, rfl, rfl, unhide HT0, by simp⟩
  case round =>
    obtain ⟨k, v, r, bs, hk, rfl, ht, hlen⟩ := hrel
    have HT := hide ht
    have HK := hide hk
    have hk40 : k ≤ 40 := by omega
    clear ht HT0 hk
    by_cases hlt : k < m ∧ k < 40
    · obtain ⟨hlt1, hlt2⟩ := hlt
      have HLr := hide ((unhide HL).later2 (unhide HT).only)
      obtain ⟨lo', lc', he, _, _, hc⟩ := (unhide HLr).shape
      simp only [Value.slice.injEq] at he
      obtain ⟨e1, _, e2⟩ := he
      subst e1; subst e2
      obtain ⟨bb, off, e1, hbb, hcell⟩ := hc (by omega)
      subst e1
      obtain ⟨c0, c1, c2⟩ := hcell k hlt1
      have hN2 := ((unhide HL).num k hlt1).2.2
      have hBk := unhide HB k hlt1
      clear hcell hc
      have i1 : (k : Int) < m := by omega
      have i2 : (k : Int) < 40 := by omega
      obtain ⟨vao, vcap, hVk, _, _⟩ := ((unhide HLr).has k hlt1).shape
      have HVK := hide hVk
      rw [hVk] at c2
      clear hVk
      have HO : Hid (TwoW w (wr.alloc (.cells #[.int .i64 (A k), .int .u64 (N k), .slice vao (Bs k).length vcap] 38)) w.heap.size w2.heap.size v r bs) := (unhide HT).later ((Only.refl _ _).alloc _)
      have HX4 : Hid (Has (wr.alloc (.cells #[.int .i64 (A k), .int .u64 (N k), .slice vao (Bs k).length vcap] 38)) (.slice vao (Bs k).length vcap) (Bs k)) := by
        have h := (unhide HLr).has k hlt1
        rw [unhide HVK] at h
        exact h.only ((Only.refl (fun _ => False) _).alloc _) (fun _ _ _ h => h)
      have HXB : Hid (Bs k ≠ [] → ∀ j, blk (.slice vao (Bs k).length vcap) = some j → j < w.heap.size) := by
        intro hne j hj
        have h := (unhide HL).has k hlt1
        rw [unhide HVK] at h
        rcases h with ⟨_, h0⟩ | ⟨a, c, he, _, _, _, hb, _⟩
        · exact absurd h0 hne
        · simp only [Value.slice.injEq] at he
          obtain ⟨rfl, _, _⟩ := he
          simp only [blk, Option.map_some, Option.some.injEq] at hj
          subst hj
          exact hb (by cases hB : Bs k with | nil => exact absurd hB hne | cons _ _ => simp)
      have HNB := hide (heap_alloc_new wr (.cells #[.int .i64 (A k), .int .u64 (N k), .slice vao (Bs k).length vcap] 38))
      go_wp2_with fail
      refine (pick_any (A k) 6 _ (by decide) (by decide)).mono ?_
      rintro e w3 ⟨rfl, rfl⟩
      have hp : 0 ≤ A k % 6 ∧ A k % 6 < 6 := ⟨Int.emod_nonneg _ (by decide), Int.emod_lt_of_pos _ (by decide)⟩
      generalize hlbq : wr.heap.size = lb at *
      clear hlbq
      generalize wr.alloc (.cells #[.int .i64 (A k), .int .u64 (N k), .slice vao (Bs k).length vcap] 38) = w4 at *
      have HT4 := HO
      have HB4 := HNB
      clear HO HNB HT c0 c1 c2
      obtain ⟨e0, e1, e2⟩ := cells_three' (unhide HB4)
      obtain ⟨p, hpe⟩ : ∃ p, p = A k % 6 := ⟨_, rfl⟩
      rw [← hpe] at hp ⊢
      clear hpe
      have hp6 : p = 0 ∨ p = 1 ∨ p = 2 ∨ p = 3 ∨ p = 4 ∨ p = 5 := by omega
      rcases hp6 with rfl | rfl | rfl | rfl | rfl | rfl
      · go_wp2_with fail
        refine (WO.u8_any _ v bs _ w4 (unhide HT4).x (by omega)).mono ?_
        rintro e w5 ⟨rfl, v5, h5⟩
        obtain ⟨m1, m2, m3⟩ := (unhide HT4).mid h5
        obtain ⟨f0, f1, f2⟩ := cells_three' ((unhide HT4).local h5 (unhide HB4) (by decide) (by decide))
        have H5 := hide h5
        have M1 := hide m1
        clear h5 m1 m2 m3 e0 e1 e2
        go_wp2_with fail
        refine (WR.u8_any _ r bs _ w5 (unhide M1) (by omega)).mono ?_
        rintro e w6 ⟨rfl, r6, h6⟩
        have HT6 := hide ((unhide HT4).step (unhide H5) h6)
        clear h6 H5 M1 HT4 f0 f1 f2
        obtain ⟨rao, rcap, hrv⟩ := ownsRow_shape (unhide HT6).r.own
        subst hrv
        have d0 := cell_of_one (unhide HT6).r.blk
        go_wp2
        go_quiet ((go_at_call 16; exact Calls.quiet_of_same (len_any _ _ _ _ ((unhide HT6).drewN _).x)))
        go_wp2
        go_roundg (gk - 1)
        case measure => have := unhide HK; omega
        case rel => exact ⟨k + 1, _, _, _, by have := unhide HK; omega, by go_num, (unhide HT6).drewN _, by simp [be_length]; omega⟩
      · go_wp2_with fail
        refine (WO.u16_any _ v bs _ w4 (unhide HT4).x (by omega)).mono ?_
        rintro e w5 ⟨rfl, v5, h5⟩
        obtain ⟨m1, m2, m3⟩ := (unhide HT4).mid h5
        obtain ⟨f0, f1, f2⟩ := cells_three' ((unhide HT4).local h5 (unhide HB4) (by decide) (by decide))
        have H5 := hide h5
        have M1 := hide m1
        clear h5 m1 m2 m3 e0 e1 e2
        go_wp2_with fail
        refine (WR.u16_any _ r bs _ w5 (unhide M1) (by omega)).mono ?_
        rintro e w6 ⟨rfl, r6, h6⟩
        have HT6 := hide ((unhide HT4).step (unhide H5) h6)
        clear h6 H5 M1 HT4 f0 f1 f2
        obtain ⟨rao, rcap, hrv⟩ := ownsRow_shape (unhide HT6).r.own
        subst hrv
        have d0 := cell_of_one (unhide HT6).r.blk
        go_wp2
        go_quiet ((go_at_call 16; exact Calls.quiet_of_same (len_any _ _ _ _ ((unhide HT6).drewN _).x)))
        go_wp2
        go_roundg (gk - 1)
        case measure => have := unhide HK; omega
        case rel => exact ⟨k + 1, _, _, _, by have := unhide HK; omega, by go_num, (unhide HT6).drewN _, by simp [be_length]; omega⟩
      · go_wp2_with fail
        refine (WO.u32_any _ v bs _ w4 (unhide HT4).x (by omega)).mono ?_
        rintro e w5 ⟨rfl, v5, h5⟩
        obtain ⟨m1, m2, m3⟩ := (unhide HT4).mid h5
        obtain ⟨f0, f1, f2⟩ := cells_three' ((unhide HT4).local h5 (unhide HB4) (by decide) (by decide))
        have H5 := hide h5
        have M1 := hide m1
        clear h5 m1 m2 m3 e0 e1 e2
        go_wp2_with fail
        refine (WR.u32_any _ r bs _ w5 (unhide M1) (by omega)).mono ?_
        rintro e w6 ⟨rfl, r6, h6⟩
        have HT6 := hide ((unhide HT4).step (unhide H5) h6)
        clear h6 H5 M1 HT4 f0 f1 f2
        obtain ⟨rao, rcap, hrv⟩ := ownsRow_shape (unhide HT6).r.own
        subst hrv
        have d0 := cell_of_one (unhide HT6).r.blk
        go_wp2
        go_quiet ((go_at_call 16; exact Calls.quiet_of_same (len_any _ _ _ _ ((unhide HT6).drewN _).x)))
        go_wp2
        go_roundg (gk - 1)
        case measure => have := unhide HK; omega
        case rel => exact ⟨k + 1, _, _, _, by have := unhide HK; omega, by go_num, (unhide HT6).drewN _, by simp [be_length]; omega⟩
      · go_wp2_with fail
        refine (WO.u64_any _ v bs _ w4 hN2 (unhide HT4).x (by omega)).mono ?_
        rintro e w5 ⟨rfl, v5, h5⟩
        obtain ⟨m1, m2, m3⟩ := (unhide HT4).mid h5
        obtain ⟨f0, f1, f2⟩ := cells_three' ((unhide HT4).local h5 (unhide HB4) (by decide) (by decide))
        have H5 := hide h5
        have M1 := hide m1
        clear h5 m1 m2 m3 e0 e1 e2
        go_wp2_with fail
        refine (WR.u64_any _ r bs _ w5 hN2 (unhide M1) (by omega)).mono ?_
        rintro e w6 ⟨rfl, r6, h6⟩
        have HT6 := hide ((unhide HT4).step (unhide H5) h6)
        clear h6 H5 M1 HT4 f0 f1 f2
        obtain ⟨rao, rcap, hrv⟩ := ownsRow_shape (unhide HT6).r.own
        subst hrv
        have d0 := cell_of_one (unhide HT6).r.blk
        go_wp2
        go_quiet ((go_at_call 16; exact Calls.quiet_of_same (len_any _ _ _ _ ((unhide HT6).drewN _).x)))
        go_wp2
        go_roundg (gk - 1)
        case measure => have := unhide HK; omega
        case rel => exact ⟨k + 1, _, _, _, by have := unhide HK; omega, by go_num, (unhide HT6).drewN _, by simp [be_length]; omega⟩
      · have hsepx : ∀ S : Nat → Prop, (∀ j, S j → w.heap.size ≤ j) → Bs k ≠ [] → ∀ j, blk (.slice vao (Bs k).length vcap) = some j → ¬ S j := fun S hS hne j hj hs => by
          have h1 := unhide HXB hne j hj
          have h2 := hS j hs
          omega
        have HSX := hide hsepx
        clear hsepx
        go_wp2_with fail
        refine (WO.raw_any _ v bs _ (Bs k) w4 (unhide HX4) (unhide HT4).x (by omega)).mono ?_
        rintro e w5 ⟨rfl, v5, h5⟩
        obtain ⟨m1, m2, m3⟩ := (unhide HT4).mid h5
        obtain ⟨f0, f1, f2⟩ := cells_three' ((unhide HT4).local h5 (unhide HB4) (by decide) (by decide))
        have HX5 := hide ((unhide HX4).only h5.only (unhide HSX _ (fun j e => by
          rcases e with e | e
          · omega
          · exact (unhide HT4).xo j e)))
        have H5 := hide h5
        have M1 := hide m1
        clear h5 m1 m2 m3 e0 e1 e2
        go_wp2_with fail
        refine (WR.raw_any _ r bs _ (Bs k) w5 (unhide HX5) (unhide M1) (by omega)).mono ?_
        rintro e w6 ⟨rfl, r6, h6⟩
        have HT6 := hide ((unhide HT4).step (unhide H5) h6)
        clear h6 H5 M1 HT4 f0 f1 f2
        obtain ⟨rao, rcap, hrv⟩ := ownsRow_shape (unhide HT6).r.own
        subst hrv
        have d0 := cell_of_one (unhide HT6).r.blk
        go_wp2
        go_quiet ((go_at_call 16; exact Calls.quiet_of_same (len_any _ _ _ _ ((unhide HT6).drewN _).x)))
        go_wp2
        go_roundg (gk - 1)
        case measure => have := unhide HK; omega
        case rel => exact ⟨k + 1, _, _, _, by have := unhide HK; omega, by go_num, (unhide HT6).drewN _, by rw [List.length_append]; omega⟩
      · clear e1
        have HSP : Hid ((Bs k ≠ [] → ∀ j, blk (.slice vao (Bs k).length vcap) = some j → j ≠ w.heap.size ∧ v.ownBlock ≠ some j) ∧ (Bs k ≠ [] → ∀ j, blk (.slice vao (Bs k).length vcap) = some j → j ≠ w2.heap.size ∧ r.ownBlock ≠ some j)) := by
          refine ⟨fun hne j hj => ?_, fun hne j hj => ?_⟩
          · have h1 := unhide HXB hne j hj
            refine ⟨by omega, fun e => ?_⟩
            have := (unhide HT4).xo j e
            omega
          · have h1 := unhide HXB hne j hj
            have h2 := (unhide HT4).rn
            refine ⟨by omega, fun e => ?_⟩
            have := (unhide HT4).ro j e
            omega
        have hcs : (long = false ∨ (long = true ∧ ((k : Int) == 5) = false)) ∨ (long = true ∧ k = 5) := by
          cases long with
          | false => exact Or.inl (Or.inl rfl)
          | true =>
            by_cases h5 : k = 5
            · exact Or.inr ⟨rfl, h5⟩
            · refine Or.inl (Or.inr ⟨rfl, ?_⟩)
              simp
              omega
        rcases hcs with (rfl | ⟨rfl, hk5⟩) | ⟨rfl, hk5⟩
        · go_wp2_with fail
          by_cases hl65 : (Bs k).length ≤ 65535
          · have hle : (Bs k).length ≤ 65535 := hl65
            refine (WO.short_yes _ v bs _ (Bs k) w4 (unhide HX4) (unhide HT4).x (by omega) hle (unhide HSP).1).mono ?_
            rintro e w5 ⟨rfl, v5, h5⟩
            obtain ⟨m1, m2, m3⟩ := (unhide HT4).mid h5
            have HX5 := hide ((unhide HX4).only h5.only (fun hne j hj e => by
              have h1 := (unhide HSP).1 hne j hj
              rcases e with e | e
              · exact h1.1 e
              · exact h1.2 e))
            have H5 := hide h5
            have M1 := hide m1
            clear h5 m1 m2 m3
            go_wp2_with fail
            refine (WR.short_yes _ r bs _ (Bs k) w5 (unhide HX5) (unhide M1) (by omega) hle (unhide HSP).2).mono ?_
            rintro e w6 ⟨rfl, r6, h6⟩
            have h6' : Wrote 35 w5 w2.heap.size r w6 r6 (bs ++ WO.short (Bs k)) := h6
            have HT6 := hide ((unhide HT4).step (unhide H5) h6')
            clear h6 h6' H5 M1
            obtain ⟨rao, rcap, hrv⟩ := ownsRow_shape (unhide HT6).r.own
            subst hrv
            have d0 := cell_of_one (unhide HT6).r.blk
            go_wp2
            go_quiet ((go_at_call 16; exact Calls.quiet_of_same (len_any _ _ _ _ ((unhide HT6).drewN _).x)))
            go_wp2
            go_roundg (gk - 1)
            case measure => have := unhide HK; omega
            case rel => exact ⟨k + 1, _, _, _, by have := unhide HK; omega, by go_num, (unhide HT6).drewN _, by simp [be_length, WO.short]; omega⟩
          · refine (WO.short_no _ _ (Bs k) w4 (unhide HX4) (by omega)).mono ?_
            rintro e w5 ⟨rfl, rfl⟩
            go_wp2_with fail
            refine (WR.short_no _ _ (Bs k) _ (unhide HX4) (by omega)).mono ?_
            rintro e w6 ⟨rfl, rfl⟩
            have HT6 := HT4
            obtain ⟨rao, rcap, hrv⟩ := ownsRow_shape (unhide HT6).r.own
            subst hrv
            have d0 := cell_of_one (unhide HT6).r.blk
            go_wp2
            go_quiet ((go_at_call 16; exact Calls.quiet_of_same (len_any _ _ _ _ ((unhide HT6).drewN _).x)))
            go_wp2
            go_roundg (gk - 1)
            case measure => have := unhide HK; omega
            case rel => exact ⟨k + 1, _, _, bs, by have := unhide HK; omega, by go_num, (unhide HT6).drewN _, Nat.le_trans hlen (Nat.mul_le_mul_right _ (Nat.le_succ k))⟩
        · go_wp2_with fail
          by_cases hl65 : (Bs k).length ≤ 65535
          · have hle : (Bs k).length ≤ 65535 := hl65
            refine (WO.short_yes _ v bs _ (Bs k) w4 (unhide HX4) (unhide HT4).x (by omega) hle (unhide HSP).1).mono ?_
            rintro e w5 ⟨rfl, v5, h5⟩
            obtain ⟨m1, m2, m3⟩ := (unhide HT4).mid h5
            have HX5 := hide ((unhide HX4).only h5.only (fun hne j hj e => by
              have h1 := (unhide HSP).1 hne j hj
              rcases e with e | e
              · exact h1.1 e
              · exact h1.2 e))
            have H5 := hide h5
            have M1 := hide m1
            clear h5 m1 m2 m3
            go_wp2_with fail
            refine (WR.short_yes _ r bs _ (Bs k) w5 (unhide HX5) (unhide M1) (by omega) hle (unhide HSP).2).mono ?_
            rintro e w6 ⟨rfl, r6, h6⟩
            have h6' : Wrote 35 w5 w2.heap.size r w6 r6 (bs ++ WO.short (Bs k)) := h6
            have HT6 := hide ((unhide HT4).step (unhide H5) h6')
            clear h6 h6' H5 M1
            obtain ⟨rao, rcap, hrv⟩ := ownsRow_shape (unhide HT6).r.own
            subst hrv
            have d0 := cell_of_one (unhide HT6).r.blk
            go_wp2
            go_quiet ((go_at_call 16; exact Calls.quiet_of_same (len_any _ _ _ _ ((unhide HT6).drewN _).x)))
            go_wp2
            go_roundg (gk - 1)
            case measure => have := unhide HK; omega
            case rel => exact ⟨k + 1, _, _, _, by have := unhide HK; omega, by go_num, (unhide HT6).drewN _, by simp [be_length, WO.short]; omega⟩
          · refine (WO.short_no _ _ (Bs k) w4 (unhide HX4) (by omega)).mono ?_
            rintro e w5 ⟨rfl, rfl⟩
            go_wp2_with fail
            refine (WR.short_no _ _ (Bs k) _ (unhide HX4) (by omega)).mono ?_
            rintro e w6 ⟨rfl, rfl⟩
            have HT6 := HT4
            obtain ⟨rao, rcap, hrv⟩ := ownsRow_shape (unhide HT6).r.own
            subst hrv
            have d0 := cell_of_one (unhide HT6).r.blk
            go_wp2
            go_quiet ((go_at_call 16; exact Calls.quiet_of_same (len_any _ _ _ _ ((unhide HT6).drewN _).x)))
            go_wp2
            go_roundg (gk - 1)
            case measure => have := unhide HK; omega
            case rel => exact ⟨k + 1, _, _, bs, by have := unhide HK; omega, by go_num, (unhide HT6).drewN _, Nat.le_trans hlen (Nat.mul_le_mul_right _ (Nat.le_succ k))⟩
        · have hq : 0 ≤ A k % 12 ∧ A k % 12 < 12 := ⟨Int.emod_nonneg _ (by decide), Int.emod_lt_of_pos _ (by decide)⟩
          have hk5' : ((k : Int) == 5) = true := by simp; omega
          clear hk5
          go_wp2_with fail
          refine (pick_any (A k) 12 _ (by decide) (by decide)).mono ?_
          rintro e w3 ⟨rfl, rfl⟩
          obtain ⟨q, hq'⟩ := Int.eq_ofNat_of_zero_le hq.1
          rw [hq'] at hq ⊢
          obtain ⟨Z, hmk, zs, hzl, hZ⟩ := make_zeros (65530 + q) (by omega)
          rw [show ((65530 + q : Nat) : Int) = 65530 + (q : Int) by omega] at hmk
          have HXz : Hid (Has (w3.alloc (.cells Z 5)) (.slice (some ⟨w3.heap.size, 0, none⟩) (65530 + q) (65530 + q)) zs) := has_row (heap_alloc_new _ _) hZ hzl (by unfold maxLen; omega)
          have HTz := hide ((unhide HT4).later ((Only.refl _ _).alloc (.cells Z 5)))
          have HSPz : Hid ((zs ≠ [] → ∀ j, blk (.slice (some ⟨w3.heap.size, 0, none⟩) (65530 + q) (65530 + q)) = some j → j ≠ w.heap.size ∧ v.ownBlock ≠ some j) ∧ (zs ≠ [] → ∀ j, blk (.slice (some ⟨w3.heap.size, 0, none⟩) (65530 + q) (65530 + q)) = some j → j ≠ w2.heap.size ∧ r.ownBlock ≠ some j)) := by
            have h1 := lt_of_block (unhide HT4).x.blk
            have h2 := lt_of_block (unhide HT4).r.blk
            refine ⟨fun _ j hj => ?_, fun _ j hj => ?_⟩
            · simp only [blk, Option.map_some, Option.some.injEq] at hj
              refine ⟨by omega, fun e => ?_⟩
              have := ((unhide HT4).x.own.lt j e).2
              omega
            · simp only [blk, Option.map_some, Option.some.injEq] at hj
              refine ⟨by omega, fun e => ?_⟩
              have := ((unhide HT4).r.own.lt j e).2
              omega
          have hzl2 : zs.length ≤ 65541 := by omega
          have HZL := hide hzl
          clear hZ hzl HX4 HSP HT4 hq'
          go_wp2_with fail
          by_cases hl65 : zs.length ≤ 65535
          · have hle : zs.length ≤ 65535 := hl65
            refine (WO.short_yes _ v bs _ zs _ (unhide HXz) (unhide HTz).x (by omega) hle (unhide HSPz).1).mono ?_
            rintro e w5 ⟨rfl, v5, h5⟩
            obtain ⟨m1, m2, m3⟩ := (unhide HTz).mid h5
            have HX5 := hide ((unhide HXz).only h5.only (fun hne j hj e => by
              have h1 := (unhide HSPz).1 hne j hj
              rcases e with e | e
              · exact h1.1 e
              · exact h1.2 e))
            have H5 := hide h5
            have M1 := hide m1
            clear h5 m1 m2 m3
            go_wp2_with fail
            refine (WR.short_yes _ r bs _ zs w5 (unhide HX5) (unhide M1) (by omega) hle (unhide HSPz).2).mono ?_
            rintro e w6 ⟨rfl, r6, h6⟩
            have h6' : Wrote 35 w5 w2.heap.size r w6 r6 (bs ++ WO.short zs) := h6
            have HT6 := hide ((unhide HTz).step (unhide H5) h6')
            clear h6 h6' H5 M1
            obtain ⟨rao, rcap, hrv⟩ := ownsRow_shape (unhide HT6).r.own
            subst hrv
            have d0 := cell_of_one (unhide HT6).r.blk
            go_wp2
            go_quiet ((go_at_call 16; exact Calls.quiet_of_same (len_any _ _ _ _ ((unhide HT6).drewN _).x)))
            go_wp2
            go_roundg (gk - 1)
            case measure => have := unhide HK; omega
            case rel => exact ⟨k + 1, _, _, _, by have := unhide HK; omega, by go_num, (unhide HT6).drewN _, by simp [be_length, WO.short]; omega⟩
          · refine (WO.short_no _ _ zs _ (unhide HXz) (by omega)).mono ?_
            rintro e w5 ⟨rfl, rfl⟩
            go_wp2_with fail
            refine (WR.short_no _ _ zs _ (unhide HXz) (by omega)).mono ?_
            rintro e w6 ⟨rfl, rfl⟩
            have HT6 := HTz
            obtain ⟨rao, rcap, hrv⟩ := ownsRow_shape (unhide HT6).r.own
            subst hrv
            have d0 := cell_of_one (unhide HT6).r.blk
            go_wp2
            go_quiet ((go_at_call 16; exact Calls.quiet_of_same (len_any _ _ _ _ ((unhide HT6).drewN _).x)))
            go_wp2
            go_roundg (gk - 1)
            case measure => have := unhide HK; omega
            case rel => exact ⟨k + 1, _, _, bs, by have := unhide HK; omega, by go_num, (unhide HT6).drewN _, Nat.le_trans hlen (Nat.mul_le_mul_right _ (Nat.le_succ k))⟩
    · have HT9 := hide (unhide HT)
      clear HT
      have hcases : (k < m ∧ ¬ (k : Int) < 40) ∨ ¬ (k : Int) < m := by omega
      rcases hcases with ⟨i0, i2⟩ | i1
      all_goals try (have i1 : (k : Int) < m := by omega)
      all_goals
        go_wp2_with fail
        refine (bytes_any _ v bs _ (unhide HT9).x (by omega)).mono ?_
        rintro e w5 ⟨u5, rfl, hu5⟩
        have HT5 := hide ((unhide HT9).later hu5.only)
        have hg5 : wr.heap.size < w5.heap.size := (hu5.own.lt wr.heap.size (by rw [hu5.shape]; rfl)).2
        have hsh := hu5.shape
        subst hsh
        have HO5 : Hid (Owns wr.heap.size w5 (.slice (some ⟨wr.heap.size, 0, none⟩) bs.length bs.length) bs) := hu5.own
        have hgb : ∀ j, v.ownBlock = some j → j < wr.heap.size := fun j e => ((unhide HT9).x.own.lt j e).2
        have hgr : ∀ j, r.ownBlock = some j → j < wr.heap.size := fun j e => ((unhide HT9).r.own.lt j e).2
        have hgw := lt_of_block (unhide HT9).x.blk
        have hgw2 := lt_of_block (unhide HT9).r.blk
        have hws := (unhide HT9).only.size
        have HG : Hid (∀ {wa wz : World}, TwoW w wa w.heap.size w2.heap.size v r bs → Only (fun j => j = wr.heap.size) wa wz → TwoW w wz w.heap.size w2.heap.size v r bs) := fun {wa wz} ht ho =>
          ⟨ht.x.only ho (by omega) (fun j hj e => by have := hgb j hj; omega), ht.r.only ho (by omega) (fun j hj e => by have := hgr j hj; omega), ht.only.trans ho (fun i hi e => by omega), ht.xn, ht.rn, ht.xo, ht.ro, ht.ne⟩
        clear hu5 hgb hgr HT9
        generalize wr.heap.size = g at *
        obtain ⟨rao, rcap, hrv⟩ := ownsRow_shape (unhide HT5).r.own
        subst hrv
        have d0 := cell_of_one (unhide HT5).r.blk
        have hcvA : ∀ n, (convert 24 9 (.slice (some ⟨g, 0, none⟩) bs.length bs.length)).run Try.prog (w5.drewN n) = .ok (.string (str bs)) (w5.drewN n) := fun n => str_conv ((Has.ofOwns (unhide HO5).out).only (Only.drewN' (S := fun _ => False) n) (fun _ _ _ h => h))
        have hcvB : ∀ n, (convert 24 9 (.slice rao bs.length rcap)).run Try.prog (w5.drewN n) = .ok (.string (str bs)) (w5.drewN n) := fun n => str_conv ((Has.ofOwns (unhide HT5).r.own).only (Only.drewN' (S := fun _ => False) n) (fun _ _ _ h => h))
        go_wp2
        go_quiet (fail)
        go_wp2
        rename_i nq _
        go_loopg [11] bs.length (fun gg i wx => ∃ (j : Nat) (cs : List UInt8), j + gg = bs.length ∧ i = .int .i64 j ∧ OwnsN g wx g bs.length cs ∧ TwoW w wx w.heap.size w2.heap.size v (.slice rao bs.length rcap) bs)
        case atStart => exact ⟨0, bs, by omega, rfl, ⟨rfl, (Only.drewN' (S := fun _ => False) _).owns (unhide HO5).out (fun _ _ h => h)⟩, (unhide HT5).drewN _⟩
        case round =>
          obtain ⟨j, cs, hj, rfl, ho, ht⟩ := hrel
          have HTj := hide ht
          have HOj := hide ho
          have HJ := hide hj
          clear ht ho hj HT5 HO5 hcvA hcvB d0
          by_cases hjl : j < bs.length
          · have hjc : j < cs.length := by rw [(unhide HOj).1]; exact hjl
            have hcell := (unhide HOj).cell j hjc
            have hfz := (unhide HOj).frozen j
            have hb8 := (cs[j]'hjc).toNat_lt
            have HST : Hid (∀ wz, wz = wr.setCell ⟨g, j, none⟩ (.int .u8 (bits BinOp.xor .u8 ((cs[j]'hjc).toNat : Int) 1)) → OwnsN g wz g bs.length (cs.set j (UInt8.ofNat ((cs[j]'hjc).toNat ^^^ 1)))) := fun wz hz => by
              subst hz
              exact (unhide HOj).stored j hjc
            generalize (cs[j]'hjc).toNat = c at *
            have hjb : (j : Int) < bs.length := by omega
            go_wp2
            have HT7 := hide (unhide HG (unhide HTj) ((Only.refl (fun i => i = g) wr).here j (.int .u8 (bits BinOp.xor .u8 (c : Int) 1))))
            go_roundg (gk - 1)
            case measure => have := unhide HJ; omega
            case rel => exact ⟨j + 1, _, by have := unhide HJ; omega, by go_num, unhide HST _ rfl, unhide HT7⟩
          · have hjb : ¬ (j : Int) < bs.length := by omega
            have d0 := cell_of_one (unhide HTj).r.blk
            have hcvB := str_conv (Has.ofOwns ((unhide HTj).later ((Only.refl (fun _ => False) _).drew)).r.own)
            go_wp2_with fail
            go_region_with (go_at_call 30; refine (bytes_any _ v bs _ ((unhide HTj).later ((Only.refl (fun _ => False) _).drew)).x (by omega)).mono ?_; rintro e w8 ⟨q8, rfl, hu8⟩; have HT8 := hide (((unhide HTj).later ((Only.refl (fun _ => False) _).drew)).later hu8.only); have d8 := cell_of_one (unhide HT8).r.blk; have hcv8 := str_conv (Has.ofOwns hu8.own); have hcvB8 := str_conv (Has.ofOwns (unhide HT8).r.own); clear hu8)
            all_goals go_wp2
            all_goals
              go_ret
              exact ⟨rfl, (unhide HT8).only⟩

end Go.Proofs.Ytncggpejehflmaa
