/-
  The log as a place; Commit; room as a place; Fits.
  store's Open.
  5.4, plain: what is there behind a call, or behind a crash.
  A store with all its blocks, for whoever calls it.
-/
import Derived.Test.YtmcobkcnpnfobaaGreatStKeepAll
import Derived.Test.YtmcobkcnpnfobaaGreatWalDo
import Derived.Test.YtmcobkcnpnfobaaGreatWalTheory
import Derived.Test.YtmcobkcnpnfobaaGreatWalRead
namespace Go.Proofs.YtmcobkcnpnfobaaGreat
open Go.RowKit Go.Maps
set_option linter.unusedSimpArgs false
set_option linter.unusedVariables false

namespace St
open Wal (Lg Logs LWent)

/-- a log and its disk -/
structure LD where
  l : Lg
  d : Dk

def apL (s : LD) (u : List UInt8) : Int × LD := ((Wal.append s.l s.d [u]).e, ⟨(Wal.append s.l s.d [u]).lg, (Wal.append s.l s.d [u]).dk⟩)
def reL (s : LD) (u : List UInt8) : Int × LD := ((Wal.reset s.l s.d u).e, ⟨(Wal.reset s.l s.d u).lg, (Wal.reset s.l s.d u).dk⟩)
def okL (b : Nat) (s : LD) : Prop := s.d.works + b * 3000 ≤ 890000 ∧ s.d.half ≤ 2047
def LAt (w0 : World) (B L : Nat) (w : World) (F : Nat → Prop) (s : LD) : Prop := ∃ Fd, Logs w0 w Fd B L s.d s.l ∧ F = fun k => Fd k ∨ k = L

theorem one_size (u : List UInt8) : Wal.sizes [u] = Wal.size u := by simp [Wal.sizes]

theorem meth_logA (a : Value) (w : World) : Sem.run Tryz.prog (method 269 85 a "Append") w = .ok (109, a) w := by kernel_rfl
theorem meth_logR (a : Value) (w : World) : Sem.run Tryz.prog (method 269 85 a "Reset") w = .ok (110, a) w := by kernel_rfl
theorem enter_logA (args : Array Value) (w : World) : Sem.run Tryz.prog (callFunc 109 args) w = .ok (.enter 109 args) w := by kernel_rfl
theorem enter_logR (args : Array Value) (w : World) : Sem.run Tryz.prog (callFunc 110 args) w = .ok (.enter 110 args) w := by kernel_rfl

theorem writeE_ne (d : Dk) (k : Int) (bs : List UInt8) : d.writeE k bs ≠ 2 := by
  unfold Dk.writeE
  repeat' split
  all_goals decide
theorem wrFrom_e (at' : Nat) (laid : List UInt8) : ∀ (r i : Nat) (d : Dk), (Wal.wrFrom at' laid r i d).2 ≠ 2
  | 0, i, d => by
    show d.flushE ≠ 2
    unfold Dk.flushE
    split <;> decide
  | r + 1, i, d => by
    rw [Wal.wrFrom]
    split
    · exact wrFrom_e at' laid r _ _
    · exact writeE_ne _ _ _
theorem commit_e (l : Lg) (d : Dk) (h : Wal.Hd) (at' : Nat) (laid : List UInt8) : (Wal.commit l d h at' laid).e ≠ 2 := by
  unfold Wal.commit
  by_cases h1 : (Wal.wr d at' laid).2 = 0
  · simp only [if_pos h1]
    by_cases h2 : (Wal.wr (Wal.wr d at' laid).1 l.next h.lay).2 = 0
    · simp only [if_pos h2]
      show (0 : Int) ≠ 2
      decide
    · simp only [if_neg h2]
      exact wrFrom_e _ _ _ _ _
  · simp only [if_neg h1]
    exact wrFrom_e _ _ _ _ _
theorem full_app (l : Lg) (d : Dk) (us : List (List UInt8)) (h : (Wal.append l d us).e = 2) : (Wal.append l d us).lg = l ∧ (Wal.append l d us).dk = d := by
  unfold Wal.append at h ⊢
  repeat' split
  · exact ⟨rfl, rfl⟩
  · exact ⟨rfl, rfl⟩
  · exact ⟨rfl, rfl⟩
  · rename_i h1 h2 h3
    rw [if_neg h1, if_neg h2, if_neg h3] at h
    exact absurd h (commit_e _ _ _ _ _)

theorem apL_full (s : LD) (u : List UInt8) (h : (apL s u).1 = 2) : (apL s u).2 = s := by
  obtain ⟨h1, h2⟩ := full_app s.l s.d [u] h
  show (⟨(Wal.append s.l s.d [u]).lg, (Wal.append s.l s.d [u]).dk⟩ : LD) = s
  rw [h1, h2]

theorem okL_d (s : LD) (b : Nat) (h : okL (b + 1) s) : okL b s := by
  obtain ⟨h1, h2⟩ := h
  have h3 : b * 3000 ≤ (b + 1) * 3000 := Nat.mul_le_mul_right _ (Nat.le_succ b)
  exact ⟨Nat.le_trans (Nat.add_le_add_left h3 _) h1, h2⟩

theorem plcL (w0 : World) (B L : Nat) : Plc w0.heap.size 85 (.pointer (some ⟨L, 0, none⟩)) 109 110 (LAt w0 B L) apL reL okL where
  mA := meth_logA _
  mR := meth_logR _
  eA := enter_logA
  eR := enter_logR
  lt := by
    rintro w F s ⟨Fd, h, rfl⟩ k e
    rcases e with e | e
    · exact ⟨h.dk.up k e, h.dk.lt k e⟩
    · rw [e]; exact ⟨h.up, h.lt⟩
  later := by
    rintro w w' F s S ⟨Fd, h, rfl⟩ ho hS
    exact ⟨Fd, h.later ho (fun k hk hs => ⟨fun e => (hS k hk hs).2 (Or.inl e), (hS k hk hs).1, fun e => (hS k hk hs).2 (Or.inr e)⟩), rfl⟩
  cA := by
    rintro w F s xv u b ⟨Fd, h, rfl⟩ hx hu hok
    have h63 := Wal.secsOf_lt (8 + u.length)
    refine (Wal.append_any h xv [u] (hx.mono (fun j _ e => ⟨fun e2 => e (Or.inl e2), fun e2 => e (Or.inr e2)⟩)) (by rw [one_size]; unfold Wal.size; omega) (by have := hok.1; omega)).mono ?_
    rintro e w' ⟨rfl, F', hw⟩
    refine ⟨rfl, _, ⟨F', hw.lg, rfl⟩, hw.only, fun k e => ?_⟩
    rcases e with e | e
    · rcases hw.grew k e with e | e
      · exact Or.inl (Or.inl e)
      · exact Or.inr e
    · exact Or.inl (Or.inr e)
  cR := by
    rintro w F s xv u b ⟨Fd, h, rfl⟩ hx hxb hu hok
    refine (Wal.reset_any h xv u hx (fun hne j e => ⟨fun e2 => hxb hne j e (Or.inl e2), fun e2 => hxb hne j e (Or.inr e2)⟩) hu (by have := hok.1; omega)).mono ?_
    rintro e w' ⟨rfl, F', hw⟩
    refine ⟨rfl, _, ⟨F', hw.lg, rfl⟩, hw.only, fun k e => ?_⟩
    rcases e with e | e
    · rcases hw.grew k e with e | e
      · exact Or.inl (Or.inl e)
      · exact Or.inr e
    · exact Or.inl (Or.inr e)
  full := by
    exact apL_full
  okA := by
    intro s u b h
    have := Wal.append_len s.l s.d [u]
    have h1 : (Wal.append s.l s.d [u]).dk.half = s.d.half := Wal.half_len this.1
    refine ⟨?_, by show (Wal.append s.l s.d [u]).dk.half ≤ _; rw [h1]; exact h.2⟩
    show (Wal.append s.l s.d [u]).dk.works + _ ≤ _
    have := h.1
    have := h.2
    omega
  okR := by
    intro s u b h
    have := Wal.reset_len s.l s.d u
    have h1 : (Wal.reset s.l s.d u).dk.half = s.d.half := Wal.half_len this.1
    refine ⟨?_, by show (Wal.reset s.l s.d u).dk.half ≤ _; rw [h1]; exact h.2⟩
    show (Wal.reset s.l s.d u).dk.works + _ ≤ _
    have := h.1
    have := h.2
    omega
  okD := by
    exact okL_d

/-- a store at sb -/
structure Sts (w0 w : World) (B L sb mb n : Nat) (F : Nat → Prop) (s : LD) (P : Prs) (u : Nat) : Prop where
  k : KAt w0.heap.size (LAt w0 B L) w F sb 1 mb n s P u
  c : w.cell? ⟨sb, 0, none⟩ = some (.pointer (some ⟨L, 0, none⟩))

/-- what a call has turned -/
structure SWent (w0 w w' : World) (B L sb mb n : Nat) (F : Nat → Prop) (s : LD) (P : Prs) (u : Nat) : Prop where
  now : ∃ F' mb', Sts w0 w' B L sb mb' n F' s P u ∧ (∀ k, F' k → F k ∨ w.heap.size ≤ k) ∧ (mb' = mb ∨ w.heap.size ≤ mb')
  only : Only (fun k => F k ∨ k = sb ∨ k = mb) w w'

section
variable {w0 w w' : World} {B L sb mb n : Nat} {F : Nat → Prop} {s : LD} {P : Prs} {u : Nat}
theorem Sts.same (h : Sts w0 w B L sb mb n F s P u) (ho : Only (fun _ => False) w w') : Sts w0 w' B L sb mb n F s P u := ⟨h.k.same (plcL w0 B L) ho, ho.cell h.c (fun e => e)⟩
theorem Sts.more (h : Sts w0 w B L sb mb n F s P u) {m : Nat} (hm : n ≤ m) : Sts w0 w B L sb mb m F s P u := ⟨h.k.more hm, h.c⟩

set_option maxHeartbeats 2000000 in
set_option maxRecDepth 100000 in
theorem commit_any (h : Sts w0 w B L sb mb n F s P u) (xv : Value) (ls : List (List Chg)) (hx : HasCC (fun j => ¬ F j ∧ j ≠ sb ∧ j ≠ mb) w xv ls) (hn : n + tot ls ≤ 900000000) (hN : ls.length + u ≤ 1000000000) (hok : okL ls.length s) :
    Calls Tryz.prog 32 #[.pointer (some ⟨sb, 0, none⟩), xv] w fun e w' => e = .returned (.tuple #[.int .i64 (keepEachS apL reL ls s P u).1, .int .i64 (keepEachS apL reL ls s P u).2.e]) ∧ SWent w0 w w' B L sb mb (n + tot ls) F (keepEachS apL reL ls s P u).2.s (keepEachS apL reL ls s P u).2.P (keepEachS apL reL ls s P u).2.u := by
  have hc := h.c
  have HKE := hide (fun q => keepEach_any (plcL w0 B L) (h.k.same (plcL w0 B L) (Only.drews q)) xv ls (hx.same (Only.drews q)) hn hN 0 (by simpa using hok))
  have H := hide h
  obtain ⟨xo, xc, hxv, _⟩ := hx.shape
  subst hxv
  have hslt := h.k.slt
  clear h hx hok
  go_enter Tryz.func32, Tryz.ntmps32
  go_wp2_with fail
  go_region_with (go_at_call 48; refine (unhide HKE _).mono ?_; rintro e w1 ⟨rfl, hw1⟩; have HW1 := hide hw1; clear hw1)
  all_goals
    go_wp2
    go_ret2
    refine ⟨rfl, ?_⟩
    obtain ⟨F', mb', hk, h1, h2⟩ := (unhide HW1).now
    exact ⟨⟨F', mb', ⟨hk, ((unhide HW1).rest 0 (by decide)).trans hc⟩, h1, h2⟩, (unhide HW1).only.ofDrews⟩

/-! ### its small calls -/
set_option maxRecDepth 100000 in
theorem get_yes (h : Sts w0 w B L sb mb n F s P u) (k bs : K) (hk : k.length ≤ maxLen) (hg : get P k = some bs) (hb : bs.length ≤ 140737488355328) : Calls Tryz.prog 34 #[.pointer (some ⟨sb, 0, none⟩), encStr k] w fun e w' => ∃ v, e = .returned (.tuple #[v, .bool true]) ∧ Owns w.heap.size w' v bs ∧ Only (fun _ => False) w w' := by
  have hc := h.k.c0
  have hm := h.k.map
  have HG := hide hg
  clear h hg
  go_enter Tryz.func34, Tryz.ntmps34
  go_wp2_with (at_lookup; refine wpList_hitB_ok rfl (.tmp 13) (.tmp 14) rfl rfl hm k bs rfl hk (unhide HG) ?_; intro xo xc hxq)
  refine (fresh_any _ bs w hxq.1 hb).mono ?_
  rintro e w1 ⟨v, rfl, hv, ho⟩
  go_wp2
  go_ret2
  exact ⟨_, rfl, hv, ho⟩
end
end St
end Go.Proofs.YtmcobkcnpnfobaaGreat

namespace Go.Proofs.YtmcobkcnpnfobaaGreat
open Go.RowKit Go.Maps
set_option linter.unusedSimpArgs false
set_option linter.unusedVariables false

namespace St
open Wal (Lg Logs LWent)

theorem fold_take (lss : List (List Chg)) (k : Nat) (h : k < lss.length) (P : Prs) : (lss.take (k + 1)).foldl done P = done ((lss.take k).foldl done P) lss[k] := by
  rw [List.take_succ_eq_append_getElem h, List.foldl_append]
  rfl

theorem open_nil (w : World) : Calls Tryz.prog 31 #[.pointer none] w fun e w' => e = .returned (.tuple #[.pointer none, .int .i64 1]) ∧ w' = w := by
  have HO := hide (Wal.open_nil w)
  go_enter Tryz.func31, Tryz.ntmps31
  go_wp2_with fail
  refine (unhide HO).mono ?_
  rintro e w1 ⟨rfl, rfl⟩
  go_wp2
  go_ret2
  exact ⟨rfl, rfl⟩

/-- the units read as these changes -/
structure Told (us : List (List UInt8)) (lss : List (List Chg)) : Prop where
  read : us.map readChanges = lss.map some
  few : us.length ≤ 1000000
  tot : tot lss ≤ 800000000

theorem Told.len {us : List (List UInt8)} {lss : List (List Chg)} (h : Told us lss) : us.length = lss.length := by have := congrArg List.length h.read; simpa using this
theorem Told.at {us : List (List UInt8)} {lss : List (List Chg)} (h : Told us lss) (i : Nat) (hi : i < us.length) : readChanges us[i] = some (lss[i]'(by have := h.len; omega)) := by
  have := congrArg (fun l => l[i]?) h.read
  have hl := h.len
  simpa [hi, show i < lss.length by omega] using this

theorem _root_.Go.Proofs.YtmcobkcnpnfobaaGreat.HasU.same2 {base : Nat} {w w' : World} {v : Value} {us : List (List UInt8)} (h : HasU (fun k => base ≤ k) w v us) (ho : Only (fun _ => False) w w') : HasU (fun k => base ≤ k ∧ k < w.heap.size) w' v us :=
  (h.mono (Q := fun k => base ≤ k ∧ k < w.heap.size) (fun k hk e => ⟨e, hk⟩)).only ho (fun _ _ _ e => e)

set_option maxHeartbeats 2000000 in
set_option maxRecDepth 100000 in
theorem sopen_any {w0 w : World} {F : Nat → Prop} {B : Nat} {d : Dk} (h : Dks w0 w F B d) (hw : d.works ≤ 900000) (hd : d.down = false) {us : List (List UInt8)} {lss : List (List Chg)} (hu : Wal.unitsOf d (Wal.found d).1 = some us) (ht : Told us lss) :
    Calls Tryz.prog 31 #[.pointer (some ⟨B, 0, none⟩)] w fun e w' => ∃ sb L mb, e = .returned (.tuple #[.pointer (some ⟨sb, 0, none⟩), .int .i64 0]) ∧ Sts w0 w' B L sb mb (tot lss) (fun k => F k ∨ k = L) ⟨Wal.lgOf (Wal.found d), d⟩ (lss.foldl done []) us.length ∧ w.heap.size ≤ sb ∧ w.heap.size ≤ L ∧ w.heap.size ≤ mb ∧ Only (fun _ => False) w w' := by
  have HO := hide (Wal.open_any h hw hd)
  rw [hu] at HO
  have HFL : Hid (∀ k, F k → k < w.heap.size) := h.lt
  have HT := hide ht
  have hfew := ht.few
  have htot := ht.tot
  have hbase := h.only.size
  clear h hd hu ht
  go_enter Tryz.func31, Tryz.ntmps31
  go_wp2_with fail
  refine (unhide HO).mono ?_
  rintro e w1 ⟨⟨L, v, rfl, hov, hlg, hL⟩, o1⟩
  have hs1 := o1.size
  have hU := hov.hasU
  obtain ⟨vo, vc, rfl, _⟩ := hU.shape
  have HU := hide hU
  have HLG := hide hlg
  have HO1 := hide o1
  have hLlt := hlg.lt
  obtain ⟨N, hN⟩ : ∃ N, N = us.length := ⟨_, rfl⟩
  have HN := hide hN
  rw [← hN] at HU hfew ⊢
  clear hov hU hlg o1 hN
  have hmm := @run_makeMap Tryz.prog
  go_wp2
  have hB2 : ((w1.alloc (.map #[] 0)).alloc (.cells #[.pointer (some ⟨L, 0, none⟩), .map (some w1.heap.size), .int .i64 N] 93)).heap[w1.heap.size + 1]? = some (.cells #[.pointer (some ⟨L, 0, none⟩), .map (some w1.heap.size), .int .i64 N] 93 (0, 0)) := by
    have := heap_alloc_new (w1.alloc (.map #[] 0)) (.cells #[.pointer (some ⟨L, 0, none⟩), .map (some w1.heap.size), .int .i64 N] 93)
    simpa using this
  have oA1 := (Only.refl (fun _ => False) w1).alloc (.map #[] 0)
  have oA2 := (Only.refl (fun _ => False) (w1.alloc (.map #[] 0))).alloc (.cells #[.pointer (some ⟨L, 0, none⟩), .map (some w1.heap.size), .int .i64 N] 93)
  obtain ⟨V, hV⟩ : ∃ V : Nat → Prop, V = fun j => ¬ (F j ∨ j = L) ∧ j ≠ w1.heap.size + 1 ∧ j ≠ w1.heap.size := ⟨_, rfl⟩
  have hmap0 : MapAt V (w1.alloc (.map #[] 0)) w1.heap.size 0 [] := mapV_made _ _
  have hmap := hmap0.same oA2
  have o2 : Only (fun _ => False) w1 ((w1.alloc (.map #[] 0)).alloc (.cells #[.pointer (some ⟨L, 0, none⟩), .map (some w1.heap.size), .int .i64 N] 93)) := oA1.trans oA2 (fun _ _ e => e)
  generalize ((w1.alloc (.map #[] 0)).alloc (.cells #[.pointer (some ⟨L, 0, none⟩), .map (some w1.heap.size), .int .i64 N] 93)) = w2 at *
  have HU2 := hide ((unhide HU).same2 o2)
  have HLG2 := hide ((unhide HLG).same o2)
  have HM2 := hide hmap
  have HB2 := hide hB2
  have hs2 := lt_of_block hB2
  have HO2 := hide o2
  obtain ⟨c0, c1, c2, cf⟩ := cells_3 hB2
  clear hB2 oA1 oA2 hmap0 hmap o2
  have hFl := unhide HFL
  go_loopw [30] (fun i wr => ∃ k : Nat, k ≤ N ∧ i = .int .i64 k ∧ MapAt V wr w1.heap.size (tot (lss.take k)) ((lss.take k).foldl done []) ∧ Only (fun k => k = w1.heap.size) w2 wr) (fun i _ => N - (intOf i).toNat)
  case atStart => exact ⟨0, Nat.zero_le _, rfl, unhide HM2, Only.refl _ _⟩
  case round =>
    obtain ⟨k, hk, rfl, hm, ho⟩ := hrel
    have HM := hide hm
    have HO' := hide ho
    have hs3 := ho.size
    have e1 := ho.cell c1 (fun e => by simp at e)
    clear hm ho
    by_cases hlt : k < N
    · have hku : k < us.length := by have := unhide HN; omega
      have hlt' : (k : Int) < N := by omega
      have hU3 := (unhide HU2).only (unhide HO') (fun j hj hp e => by have := hp.2; omega)
      obtain ⟨bb, off, x, hao, hcx, hxh, hxb⟩ := hU3.at k hku
      subst hao
      have hkl : k < lss.length := by have := (unhide HT).len; omega
      have hrd := (unhide HT).at k hku
      have htt := tot_take lss k hkl
      have htl := tot_le lss (k + 1)
      have HFT := hide (fold_take lss k hkl [])
      have hlay := lay_parts (lay_read hrd)
      have HRC := hide (readChanges_any x us[k] wr hxh (by have := hlay.2.2; omega))
      rw [hrd] at HRC
      obtain ⟨l, hl⟩ : ∃ l, l = lss[k] := ⟨_, rfl⟩
      rw [← hl] at HRC htt HFT hlay
      have HLY := hide hlay
      have hl1000 := hlay.1
      obtain ⟨xo, xc, rfl, _⟩ := hxh.shape
      clear hl hrd hxh hxb hU3 hlay
      go_wp2_with fail
      refine (unhide HRC).mono ?_
      rintro e w4 ⟨⟨y, rfl, hrow⟩, o4⟩
      have hs4 := o4.size
      have e4 := o4.cell e1 (fun e => e)
      have hm4 := (unhide HM).same o4
      have hC4 : HasC (fun j => wr.heap.size ≤ j) w4 y l := hrow.hasC (fun _ e => e)
      obtain ⟨yo, yc, rfl⟩ := hrow.shape
      have HDO := hide (do_any hm4 _ l hC4 (fun j hj => by rw [hV]; exact ⟨fun e => by rcases e with e | e; have := hFl j e; omega; omega, by omega, by omega⟩) (by rw [hV]; exact fun e => e.2.2 rfl) (by omega) (by omega) (by omega) (fun c hc => by have := (unhide HLY).2.1 c hc; omega))
      have HO4 := hide o4
      clear hrow hm4 hC4 o4
      go_wp2_with fail
      refine (unhide HDO).mono ?_
      rintro e w5 ⟨rfl, hm5, o5⟩
      have HM5 := hide hm5
      have HO5 : Hid (Only (fun k => k = w1.heap.size) w2 w5) := ((unhide HO').trans ((unhide HO4).mono (T := fun k => k = w1.heap.size) (fun _ _ e => e.elim)) (fun _ _ e => e)).trans o5 (fun _ _ e => e)
      clear hm5 o5
      go_wp2
      go_roundw
      case rel =>
        refine ⟨k + 1, by omega, by go_num, ?_, unhide HO5⟩
        rw [unhide HFT, htt]
        exact unhide HM5
      case measure => simp [intOf]; omega
    · obtain rfl : N = k := by omega
      have htk : lss.take N = lss := List.take_of_length_le (by have := unhide HN; have := (unhide HT).len; omega)
      rw [htk] at HM
      have e0 := (unhide HO').cell c0 (fun e => by simp at e)
      have e2 := (unhide HO').cell c2 (fun e => by simp at e)
      have ef : ∀ i, wr.frozen? ⟨w1.heap.size + 1, i, none⟩ = false := fun i => frozen_kept (unhide HO') hs2 (fun e => by simp at e) (cf i)
      go_wp2
      go_ret2
      have hlg := (unhide HLG2).later (unhide HO') (fun j hj e => ⟨fun e2 => by have := hFl j e2; omega, by omega, by omega⟩)
      have hm := (unhide HM)
      rw [hV] at hm
      refine ⟨w1.heap.size + 1, L, w1.heap.size, rfl, ⟨⟨⟨F, hlg, rfl⟩, e1, by rw [← unhide HN]; exact e2, ef, hm, fun e => ?_, fun e => ?_, by omega, by omega, by omega⟩, e0⟩, by omega, hL, hs1, ?_⟩
      · rcases e with e | e
        · have := hFl _ e; omega
        · omega
      · rcases e with e | e
        · have := hFl _ e; omega
        · omega
      · exact ((unhide HO1).trans (unhide HO2) (fun _ _ e => e)).trans (unhide HO') (fun i hi e => by omega)
end St
end Go.Proofs.YtmcobkcnpnfobaaGreat

namespace Go.Proofs.YtmcobkcnpnfobaaGreat
open Go.RowKit Go.Maps
set_option linter.unusedSimpArgs false
set_option linter.unusedVariables false

namespace St
open Wal (Lg)

/-- a store at rest: its log has units that lead to the pairs P; at most M of them, with at most T changes -/
def Good (s : LD) (P : Prs) (u N M T : Nat) : Prop := ∃ us lss, Wal.Safe s.d s.l us N ∧ us.map readChanges = lss.map some ∧ P = lss.foldl done [] ∧ u = us.length ∧ us.length ≤ M ∧ tot lss ≤ T

theorem Good.mono {s : LD} {P : Prs} {u N M T N' M' T' : Nat} (h : Good s P u N M T) (hN : N ≤ N') (hM : M ≤ M') (hT : T ≤ T') : Good s P u N' M' T' := by
  obtain ⟨us, lss, hs, hr, hP, hu, hm, ht⟩ := h
  exact ⟨us, lss, hs.later hN, hr, hP, hu, by omega, by omega⟩

theorem sorted_fold (lss : List (List Chg)) : ∀ (P : Prs), Sorted P → Sorted (lss.foldl done P) := by
  induction lss with
  | nil => exact fun P h => h
  | cons l r ih => exact fun P h => ih _ (sorted_done l h)
theorem length_fold (lss : List (List Chg)) : ∀ (P : Prs), (lss.foldl done P).length ≤ P.length + tot lss := by
  induction lss with
  | nil => intro P; simp [tot]
  | cons l r ih =>
    intro P
    have h1 := ih (done P l)
    have h2 := length_done l P
    have h3 : tot (l :: r) = l.length + tot r := by simp [tot]
    rw [List.foldl_cons, h3]
    omega
theorem Good.sorted {s : LD} {P : Prs} {u N M T : Nat} (h : Good s P u N M T) : Sorted P := by
  obtain ⟨us, lss, hs, hr, hP, hu, hm, ht⟩ := h
  rw [hP]
  exact sorted_fold lss [] List.Pairwise.nil
theorem Good.size {s : LD} {P : Prs} {u N M T : Nat} (h : Good s P u N M T) : P.length ≤ T := by
  obtain ⟨us, lss, hs, hr, hP, hu, hm, ht⟩ := h
  rw [hP]
  have := length_fold lss []
  simp at this
  omega
theorem Good.told {s : LD} {P : Prs} {u N M T : Nat} (h : Good s P u N M T) (hM : M ≤ 1000000) (hT : T ≤ 800000000) : ∃ us lss, Wal.unitsOf s.d (Wal.found s.d).1 = some us ∧ Told us lss ∧ P = lss.foldl done [] ∧ u = us.length ∧ tot lss ≤ T ∧ Wal.lgOf (Wal.found s.d) = s.l := by
  obtain ⟨us, lss, hs, hr, hP, hu, hm, ht⟩ := h
  refine ⟨us, lss, ?_, ⟨hr, by omega, by omega⟩, hP, hu, ht, hs.lg_eq⟩
  rw [hs.found]
  exact hs.units

theorem tot_append (a b : List (List Chg)) : tot (a ++ b) = tot a + tot b := by simp [tot]
theorem tot_one (l : List Chg) : tot [l] = l.length := by simp [tot]
theorem allOf_length (P : Prs) : (allOf P).length = P.length := by simp [allOf]

/-- behind a crash -/
def Crashed (d : Dk) (fs : List Int) : LD := ⟨Wal.lgOf (Wal.found (d.crash fs)), d.crash fs⟩

/-- what making sure of one unit may leave -/
inductive KGood (s : LD) (P : Prs) (u : Nat) (l : List Chg) (N M T : Nat) (r : KRes LD) : Prop
  | no (he : r.e = 1 ∨ r.e = 2) (h : r = ⟨r.e, s, P, u⟩)
  | yes (he : r.e = 0) (hP : r.P = done P l) (h : Good r.s r.P r.u (N + 1) (M + 1) (T + l.length))
  | fell (he : r.e = 9) (hP : r.P = P) (hu : r.u = u) (h : ∀ fs, ∃ P' u', (P' = P ∨ P' = done P l) ∧ Good (Crashed r.s.d fs) P' u' (N + 1) (M + 1) (T + l.length))

theorem keep_good {s : LD} {P : Prs} {u N M T : Nat} (h : Good s P u N M T) (l : List Chg) (hN : N + 1 < 18446744073709551616) : KGood s P u l N M T (keepS apL reL s P u l) := by
  have hG := h
  have hsrt := h.sorted
  have hsz := h.size
  obtain ⟨us, lss, hs, hr, hP, hu, hm, ht⟩ := h
  unfold keepS
  cases hl : layChanges l with
  | none => exact .no (Or.inl rfl) rfl
  | some bs =>
    simp only
    by_cases hnil : l = []
    · rw [if_pos hnil]
      refine .yes rfl ?_ (hG.mono (by omega) (by omega) (by omega))
      rw [hnil]; rfl
    · rw [if_neg hnil]
      have hb := (lay_parts hl).2.2
      have happ := Wal.append_safe hs [bs] (fun x hx => by rw [List.mem_singleton.1 hx]; omega) hN
      have hgA : ∀ {s' : LD}, Wal.Safe s'.d s'.l (us ++ [bs]) (N + 1) → Good s' (done P l) (u + 1) (N + 1) (M + 1) (T + l.length) := fun h' =>
        ⟨us ++ [bs], lss ++ [l], h', by simp [hr, read_lay hl], by rw [List.foldl_append, ← hP]; rfl, by simp [hu], by simp; omega, by rw [tot_append, tot_one]; omega⟩
      have hgO : ∀ {s' : LD}, Wal.Safe s'.d s'.l us (N + 1) → Good s' P u (N + 1) (M + 1) (T + l.length) := fun h' => ⟨us, lss, h', hr, hP, hu, by omega, by omega⟩
      by_cases h0 : (apL s bs).1 = 0
      · rw [if_pos h0]
        rcases happ with e | hk
        · have : (apL s bs).1 = 2 := by show (Wal.append s.l s.d [bs]).e = 2; rw [e]
          omega
        · rcases hk.out with ⟨_, h'⟩ | ⟨e, _⟩
          · exact .yes rfl rfl (hgA h')
          · have : (apL s bs).1 = 9 := e
            omega
      · rw [if_neg h0]
        by_cases h2 : (apL s bs).1 = 2
        · rw [if_pos h2]
          have hsame := apL_full s bs h2
          rw [hsame]
          unfold keepAnewS
          cases hl2 : layChanges (allOf (done P l)) with
          | none => exact .no (Or.inr rfl) rfl
          | some cs =>
            simp only
            have hb2 := (lay_parts hl2).2.2
            have hre := Wal.reset_safe hs cs (by omega) hN
            have hdl := length_done l P
            have hgR : ∀ {s' : LD}, Wal.Safe s'.d s'.l [cs] (N + 1) → Good s' (done P l) 1 (N + 1) (M + 1) (T + l.length) := fun h' =>
              ⟨[cs], [allOf (done P l)], h', by simp [read_lay hl2], (done_allOf (sorted_done l hsrt)).symm, rfl, by simp, by rw [tot_one, allOf_length]; omega⟩
            by_cases h3 : (reL s cs).1 = 0
            · rw [if_pos h3]
              rcases hre with e | hk
              · have : (reL s cs).1 = 2 := by show (Wal.reset s.l s.d cs).e = 2; rw [e]
                omega
              · rcases hk.out with ⟨_, h'⟩ | ⟨e, _⟩
                · exact .yes rfl rfl (hgR h')
                · have : (reL s cs).1 = 9 := e
                  omega
            · rw [if_neg h3]
              rcases hre with e | hk
              · have hr2 : reL s cs = (2, s) := by unfold reL; rw [e]
                rw [hr2]
                exact .no (Or.inr rfl) rfl
              · rcases hk.out with ⟨e, _⟩ | ⟨e, h'⟩
                · exact absurd e h3
                · refine .fell e rfl rfl (fun fs => ?_)
                  obtain ⟨ws, hw, hS⟩ := h' fs
                  rcases hw with rfl | rfl
                  · exact ⟨P, _, Or.inl rfl, hgO (s' := Crashed _ fs) hS⟩
                  · exact ⟨done P l, _, Or.inr rfl, hgR (s' := Crashed _ fs) hS⟩
        · rw [if_neg h2]
          rcases happ with e | hk
          · exact absurd (by show (Wal.append s.l s.d [bs]).e = 2; rw [e]) h2
          · rcases hk.out with ⟨e, _⟩ | ⟨e, h'⟩
            · exact absurd e h0
            · refine .fell e rfl rfl (fun fs => ?_)
              obtain ⟨ws, hw, hS⟩ := h' fs
              rcases hw with rfl | rfl
              · exact ⟨P, _, Or.inl rfl, hgO (s' := Crashed _ fs) hS⟩
              · exact ⟨done P l, _, Or.inr rfl, hgA (s' := Crashed _ fs) hS⟩

/-- .. of several -/
structure EGood (P : Prs) (ls : List (List Chg)) (N M T : Nat) (q : Nat × KRes LD) : Prop where
  le : q.1 ≤ ls.length
  P : q.2.P = (ls.take q.1).foldl done P
  out : (q.2.e = 0 ∧ q.1 = ls.length ∧ Good q.2.s q.2.P q.2.u (N + ls.length) (M + ls.length) (T + tot ls)) ∨
    ((q.2.e = 1 ∨ q.2.e = 2) ∧ q.1 < ls.length ∧ Good q.2.s q.2.P q.2.u (N + ls.length) (M + ls.length) (T + tot ls)) ∨
    (q.2.e = 9 ∧ ∃ h : q.1 < ls.length, ∀ fs, ∃ P' u', (P' = q.2.P ∨ P' = done q.2.P ls[q.1]) ∧ Good (Crashed q.2.s.d fs) P' u' (N + ls.length) (M + ls.length) (T + tot ls))

theorem each_good (ls : List (List Chg)) : ∀ {s : LD} {P : Prs} {u N M T : Nat}, Good s P u N M T → N + ls.length < 18446744073709551615 → EGood P ls N M T (keepEachS apL reL ls s P u) := by
  induction ls with
  | nil =>
    intro s P u N M T h hN
    exact ⟨Nat.le_refl _, rfl, Or.inl ⟨rfl, rfl, h⟩⟩
  | cons l r ih =>
    intro s P u N M T h hN
    have ht : tot (l :: r) = l.length + tot r := by simp [tot]
    have hlen : (l :: r).length = r.length + 1 := rfl
    have hk := keep_good h l (by omega)
    cases hk with
    | no he hr =>
      have hne : ¬ (keepS apL reL s P u l).e = 0 := by rcases he with e | e <;> omega
      rw [keepEachS_stop _ _ hne]
      rw [hr]
      refine ⟨by omega, rfl, Or.inr (Or.inl ⟨he, by omega, h.mono (by omega) (by omega) (by omega)⟩)⟩
    | yes he hP hg =>
      rw [keepEachS_step _ _ he]
      have := ih hg (by omega)
      refine ⟨by have := this.le; simp only; omega, ?_, ?_⟩
      · show (keepEachS apL reL r _ _ _).2.P = ((l :: r).take ((keepEachS apL reL r _ _ _).1 + 1)).foldl done P
        rw [this.P, List.take_succ_cons, List.foldl_cons, hP]
      · rcases this.out with ⟨a, b, c⟩ | ⟨a, b, c⟩ | ⟨a, b, c⟩
        · exact Or.inl ⟨a, by simp only; omega, c.mono (by omega) (by omega) (by omega)⟩
        · exact Or.inr (Or.inl ⟨a, by simp only; omega, c.mono (by omega) (by omega) (by omega)⟩)
        · refine Or.inr (Or.inr ⟨a, by simp only; omega, fun fs => ?_⟩)
          obtain ⟨P', u', h1, h2⟩ := c fs
          exact ⟨P', u', h1, h2.mono (by omega) (by omega) (by omega)⟩
    | fell he hP hu hg =>
      have hne : ¬ (keepS apL reL s P u l).e = 0 := by omega
      rw [keepEachS_stop _ _ hne]
      refine ⟨by simp, hP, Or.inr (Or.inr ⟨he, by simp, fun fs => ?_⟩)⟩
      obtain ⟨P', u', h1, h2⟩ := hg fs
      refine ⟨P', u', ?_, h2.mono (by omega) (by omega) (by omega)⟩
      rcases h1 with e | e
      · exact Or.inl (by rw [e, hP])
      · exact Or.inr (by rw [e, hP]; rfl)

theorem each_ok (w0 : World) (ls : List (List Chg)) : ∀ {s : LD} {P : Prs} {u : Nat} (b : Nat), okL (b + ls.length) s → okL b (keepEachS apL reL ls s P u).2.s := by
  induction ls with
  | nil => intro s P u b h; exact h
  | cons l r ih =>
    intro s P u b h
    have hk := keepS_ok (P := P) (u := u) (plcL w0 0 0) l (b + r.length) h
    by_cases he : (keepS apL reL s P u l).e = 0
    · rw [keepEachS_step _ _ he]
      exact ih b hk
    · rw [keepEachS_stop _ _ he]
      have down : ∀ c, okL (b + c) (keepS apL reL s P u l).s → okL b (keepS apL reL s P u l).s := fun c => by
        induction c with
        | zero => exact fun h => h
        | succ c ihc => exact fun h => ihc (okL_d _ _ h)
      exact down _ hk
end St
end Go.Proofs.YtmcobkcnpnfobaaGreat

namespace Go.Proofs.YtmcobkcnpnfobaaGreat
open Go.RowKit Go.Maps
set_option linter.unusedSimpArgs false
set_option linter.unusedVariables false

namespace St
open Wal (Lg Logs LWent)

/-- a store at sb over the disk at B; X: all blocks that it may turn -/
def Stt (w0 w : World) (B sb : Nat) (X : Nat → Prop) (s : LD) (P : Prs) (u n : Nat) : Prop := ∃ L mb F, Sts w0 w B L sb mb n F s P u ∧ X = fun k => F k ∨ k = sb ∨ k = mb

/-- what a call has turned -/
structure TWent (w0 w w' : World) (B sb : Nat) (X : Nat → Prop) (s : LD) (P : Prs) (u n : Nat) : Prop where
  now : ∃ X', Stt w0 w' B sb X' s P u n ∧ ∀ k, X' k → X k ∨ w.heap.size ≤ k
  only : Only X w w'

section
variable {w0 w w' : World} {B sb n : Nat} {X : Nat → Prop} {s : LD} {P : Prs} {u : Nat}

theorem Stt.same (h : Stt w0 w B sb X s P u n) (ho : Only (fun _ => False) w w') : Stt w0 w' B sb X s P u n := by
  obtain ⟨L, mb, F, hs, rfl⟩ := h
  exact ⟨L, mb, F, hs.same ho, rfl⟩
theorem Stt.more (h : Stt w0 w B sb X s P u n) {m : Nat} (hm : n ≤ m) : Stt w0 w B sb X s P u m := by
  obtain ⟨L, mb, F, hs, rfl⟩ := h
  exact ⟨L, mb, F, hs.more hm, rfl⟩
theorem Stt.lt (h : Stt w0 w B sb X s P u n) : ∀ k, X k → w0.heap.size ≤ k ∧ k < w.heap.size := by
  obtain ⟨L, mb, F, hs, rfl⟩ := h
  intro k e
  rcases e with e | e | e
  · exact (plcL w0 B L).lt _ _ _ hs.k.plc k e
  · rw [e]; exact ⟨hs.k.us, hs.k.slt⟩
  · rw [e]; exact ⟨hs.k.um, hs.k.map.lt⟩
theorem Stt.only (h : Stt w0 w B sb X s P u n) : Only (fun _ => False) w0 w := by
  obtain ⟨L, mb, F, hs, rfl⟩ := h
  obtain ⟨Fd, hl, _⟩ := hs.k.plc
  exact hl.dk.only
theorem Stt.later (h : Stt w0 w B sb X s P u n) {S : Nat → Prop} (ho : Only S w w') (hS : ∀ k, k < w.heap.size → S k → ¬ X k ∧ w0.heap.size ≤ k) (hV : ∀ k, S k → w.heap.size ≤ k) : Stt w0 w' B sb X s P u n := h.same (ho.mono (fun k hk e => by have := hV k e; omega))
theorem TWent.refl (h : Stt w0 w B sb X s P u n) : TWent w0 w w B sb X s P u n := ⟨⟨X, h, fun _ e => Or.inl e⟩, Only.refl _ _⟩
theorem Stt.fine (h : Stt w0 w B sb X s P u n) : s.d.Fine ∧ s.l.Fine s.d.half := by
  obtain ⟨L, mb, F, hs, rfl⟩ := h
  obtain ⟨Fd, hl, _⟩ := hs.k.plc
  exact ⟨hl.dk.fine, hl.fine⟩

theorem stt_commit (h : Stt w0 w B sb X s P u n) (xv : Value) (ls : List (List Chg)) (hx : HasCC (fun j => ¬ X j) w xv ls) (hn : n + tot ls ≤ 900000000) (hN : ls.length + u ≤ 1000000000) (hok : okL ls.length s) :
    Calls Tryz.prog 32 #[.pointer (some ⟨sb, 0, none⟩), xv] w fun e w' => e = .returned (.tuple #[.int .i64 (keepEachS apL reL ls s P u).1, .int .i64 (keepEachS apL reL ls s P u).2.e]) ∧ TWent w0 w w' B sb X (keepEachS apL reL ls s P u).2.s (keepEachS apL reL ls s P u).2.P (keepEachS apL reL ls s P u).2.u (n + tot ls) := by
  obtain ⟨L, mb, F, hs, rfl⟩ := h
  refine (commit_any hs xv ls (hx.mono (fun j _ e => ⟨fun e2 => e (Or.inl e2), fun e2 => e (Or.inr (Or.inl e2)), fun e2 => e (Or.inr (Or.inr e2))⟩)) hn hN hok).mono ?_
  rintro e w' ⟨rfl, hw⟩
  obtain ⟨F', mb', hs', h1, h2⟩ := hw.now
  refine ⟨rfl, ⟨⟨_, ⟨L, mb', F', hs', rfl⟩, fun k e => ?_⟩, hw.only⟩⟩
  rcases e with e | e | e
  · rcases h1 k e with e | e
    · exact Or.inl (Or.inl e)
    · exact Or.inr e
  · exact Or.inl (Or.inr (Or.inl e))
  · rcases h2 with e2 | e2
    · exact Or.inl (Or.inr (Or.inr (by rw [e, e2])))
    · exact Or.inr (by omega)

theorem stt_get (h : Stt w0 w B sb X s P u n) (k bs : K) (hk : k.length ≤ maxLen) (hg : get P k = some bs) (hb : bs.length ≤ 140737488355328) : Calls Tryz.prog 34 #[.pointer (some ⟨sb, 0, none⟩), encStr k] w fun e w' => ∃ v, e = .returned (.tuple #[v, .bool true]) ∧ Owns w.heap.size w' v bs ∧ Only (fun _ => False) w w' := by
  obtain ⟨L, mb, F, hs, rfl⟩ := h
  exact get_yes hs k bs hk hg hb
theorem Stt.key_le (h : Stt w0 w B sb X s P u n) : Sorted P ∧ P.length ≤ n ∧ ∀ k ∈ keys P, k.length ≤ maxLen := by
  obtain ⟨L, mb, F, hs, rfl⟩ := h
  exact ⟨MapV.sorted hs.k.map, MapV.size_le hs.k.map, MapV.keys_le hs.k.map⟩



/-- a crash: the disk is left -/
theorem stt_crash (h : Stt w0 w B sb X s P u n) (hw : s.d.works ≤ 1000000) (fv : Value) (fs : List Int) (hx : HasV w fv (fs.map (.int .i64))) (hxb : fs ≠ [] → ∀ j, blk fv = some j → ¬ X j) :
    Calls Tryz.prog 33 #[.pointer (some ⟨B, 0, none⟩), fv] w fun e w' => e = .returned (.tuple #[]) ∧ ∃ F', Dks w0 w' F' B (s.d.crash fs) ∧ Only X w w' ∧ ∀ k, F' k → X k ∨ w.heap.size ≤ k := by
  obtain ⟨L, mb, F, hs, rfl⟩ := h
  obtain ⟨Fd, hl, hF⟩ := hs.k.plc
  subst hF
  refine (dks_crash' hl.dk hw fv fs hx (fun hne j hj e => hxb hne j hj (Or.inl (Or.inl e)))).mono ?_
  rintro e w' ⟨rfl, F', hw⟩
  exact ⟨rfl, F', hw.dk, hw.only.mono (fun _ _ e => Or.inl (Or.inl e)), fun k e => by rcases hw.grew k e with e | e; exact Or.inl (Or.inl (Or.inl e)); exact Or.inr e⟩
end

theorem Stt.dks {w0 w : World} {B sb n : Nat} {X : Nat → Prop} {s : LD} {P : Prs} {u : Nat} (h : Stt w0 w B sb X s P u n) : ∃ F, Dks w0 w F B s.d ∧ ∀ k, F k → X k := by
  obtain ⟨L, mb, F, hs, rfl⟩ := h
  obtain ⟨Fd, hl, hF⟩ := hs.k.plc
  subst hF
  exact ⟨Fd, hl.dk, fun k e => Or.inl (Or.inl e)⟩

/-- opened (again) -/
theorem stt_open {w0 w : World} {F : Nat → Prop} {B : Nat} {s : LD} {P : Prs} {u N M T : Nat} (h : Dks w0 w F B s.d) (hw : s.d.works ≤ 900000) (hG : Good s P u N M T) (hM : M ≤ 1000000) (hT : T ≤ 800000000) :
    Calls Tryz.prog 31 #[.pointer (some ⟨B, 0, none⟩)] w fun e w' => ∃ sb X, e = .returned (.tuple #[.pointer (some ⟨sb, 0, none⟩), .int .i64 0]) ∧ Stt w0 w' B sb X s P u T ∧ (∀ k, X k → F k ∨ w.heap.size ≤ k) ∧ Only (fun _ => False) w w' := by
  obtain ⟨us, lss, hu, ht, hP, hul, htt, hl⟩ := hG.told hM hT
  have hd : s.d.down = false := by obtain ⟨_, _, hs, _⟩ := hG; exact hs.up
  refine (sopen_any h hw hd hu ht).mono ?_
  rintro e w' ⟨sb, L, mb, rfl, hs, h1, h2, h3, ho⟩
  rw [hl] at hs
  refine ⟨sb, _, rfl, ⟨L, mb, _, by rw [hP, hul]; exact hs.more htt, rfl⟩, fun k e => ?_, ho⟩
  rcases e with (e | e) | e | e
  · exact Or.inl e
  · exact Or.inr (by omega)
  · exact Or.inr (by omega)
  · exact Or.inr (by omega)

theorem good_new (m : Nat) (h1 : 8 ≤ m) (h2 : m ≤ 4096) : Good ⟨⟨Wal.Hd.zero, 0, false⟩, Dk.new m⟩ [] 0 0 0 0 := ⟨[], [], Wal.Safe.new m h1 h2, rfl, rfl, rfl, Nat.le_refl _, Nat.le_refl _⟩
theorem Good.fused {s : LD} {P : Prs} {u N M T : Nat} (h : Good s P u N M T) (m : Int) (h1 : -9223372036854775808 ≤ m) (h2 : m ≤ 9223372036854775807) : Good ⟨s.l, s.d.fused m⟩ P u N M T := by
  obtain ⟨us, lss, hs, r⟩ := h
  exact ⟨us, lss, hs.fused m h1 h2, r⟩
theorem Good.crash {s : LD} {P : Prs} {u N M T : Nat} (h : Good s P u N M T) (fs : List Int) : Good (Crashed s.d fs) P u N M T := by
  obtain ⟨us, lss, hs, r⟩ := h
  exact ⟨us, lss, hs.crash fs, r⟩
end St
end Go.Proofs.YtmcobkcnpnfobaaGreat
