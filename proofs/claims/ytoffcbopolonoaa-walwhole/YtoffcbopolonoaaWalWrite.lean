/-
  wal's write.
-/
import Derived.Test.YtoffcbopolonoaaWalRead
namespace Go.Proofs.Ytoffcbopolonoaa
open Go.RowKit
set_option linter.unusedSimpArgs false
set_option linter.unusedVariables false

theorem Dk.write_secs (d : Dk) (k : Int) (bs : List UInt8) : (d.write k bs).secs = d.secs := by
  unfold Dk.write
  split
  · split <;> rfl
  · rfl
theorem Dk.write_works (d : Dk) (k : Int) (bs : List UInt8) : (d.write k bs).works ≤ d.works + 1 := by
  unfold Dk.write
  split
  · split
    · exact Nat.le_succ _
    · exact Nat.le_refl _
  · exact Nat.le_succ _
theorem Dk.flush_len (d : Dk) : d.flush.secs.length = d.secs.length := by
  unfold Dk.flush
  split
  · rfl
  · exact Secs.putAll_length _ _
theorem Dk.flush_works (d : Dk) : d.flush.works ≤ d.works + 1 := by
  unfold Dk.flush
  split
  · exact Nat.le_succ _
  · exact Nat.le_refl _

namespace Wal

theorem wrFrom_len (at' : Nat) (laid : List UInt8) : ∀ (r i : Nat) (d : Dk), (wrFrom at' laid r i d).1.secs.length = d.secs.length
  | 0, _, d => Dk.flush_len d
  | r + 1, i, d => by
    unfold wrFrom
    split
    · rw [wrFrom_len at' laid r (i + 1), Dk.write_secs]
    · rw [Dk.write_secs]
theorem wrFrom_works (at' : Nat) (laid : List UInt8) : ∀ (r i : Nat) (d : Dk), (wrFrom at' laid r i d).1.works ≤ d.works + r + 1
  | 0, _, d => Dk.flush_works d
  | r + 1, i, d => by
    unfold wrFrom
    split
    · have h1 := wrFrom_works at' laid r (i + 1) (d.write (at' + i : Nat) (chunk laid i))
      have h2 := Dk.write_works d (at' + i : Nat) (chunk laid i)
      omega
    · have h2 := Dk.write_works d (at' + i : Nat) (chunk laid i)
      show (d.write (at' + i : Nat) (chunk laid i)).works ≤ _
      omega
theorem wr_len (d : Dk) (at' : Nat) (laid : List UInt8) : (wr d at' laid).1.secs.length = d.secs.length := wrFrom_len _ _ _ _ _
theorem wr_works (d : Dk) (at' : Nat) (laid : List UInt8) : (wr d at' laid).1.works ≤ d.works + laid.length / 64 + 1 := wrFrom_works _ _ _ _ _
theorem half_len {d d' : Dk} (h : d'.secs.length = d.secs.length) : d'.half = d.half := by unfold Dk.half; rw [h]

/-- a call has turned the log and its disk alone -/
structure LWent (w0 w w' : World) (F : Nat → Prop) (F' : Nat → Prop) (B L : Nat) (d' : Dk) (l' : Lg) : Prop where
  lg : Logs w0 w' F' B L d' l'
  only : Only (fun k => F k ∨ k = L) w w'
  grew : ∀ k, F' k → F k ∨ w.heap.size ≤ k

section
variable {w0 w w' : World} {F : Nat → Prop} {B L : Nat} {d : Dk} {l : Lg}

theorem Logs.went (h : Logs w0 w F B L d l) {F' : Nat → Prop} {d' : Dk} (hw : Went w0 w w' F F' B d') (hl : d'.secs.length = d.secs.length) (hwk : d'.works ≤ 900000) : LWent w0 w w' F F' B L d' l := by
  have hlt := h.lt
  refine ⟨⟨hw.dk, hw.only.heap h.lg h.off, fun e => ?_, h.up, by rw [half_len hl]; exact h.fine, hwk⟩, hw.only.mono (fun _ _ e => Or.inl e), hw.grew⟩
  rcases hw.grew L e with e | e
  · exact h.off e
  · omega

theorem LWent.refl (h : Logs w0 w F B L d l) : LWent w0 w w F F B L d l := ⟨h, Only.refl _ _, fun _ e => Or.inl e⟩

theorem LWent.trans {w1 w2 : World} {F1 F2 : Nat → Prop} {d1 d2 : Dk} {l1 l2 : Lg} (h : LWent w0 w w1 F F1 B L d1 l1) (k : LWent w0 w1 w2 F1 F2 B L d2 l2) : LWent w0 w w2 F F2 B L d2 l2 := by
  have hs := h.only.size
  refine ⟨k.lg, h.only.trans k.only (fun i hi e => ?_), fun i e => ?_⟩
  · rcases e with e | e
    · rcases h.grew i e with e | e
      · exact Or.inl e
      · omega
    · exact Or.inr e
  · rcases k.grew i e with e | e
    · exact h.grew i e
    · exact Or.inr (by omega)

/-- what is read, and is none of the disk's blocks nor the log's, stays -/
theorem LWent.has {F' : Nat → Prop} {d' : Dk} {l' : Lg} (h : LWent w0 w w' F F' B L d' l') {v : Value} {bs : List UInt8} (hv : Has w v bs) (hb : bs ≠ [] → ∀ j, blk v = some j → ¬ F j ∧ j ≠ L) : Has w' v bs ∧ (bs ≠ [] → ∀ j, blk v = some j → ¬ F' j ∧ j ≠ L) :=
  ⟨hv.only h.only (fun hne k hk e => by rcases e with e | e; exact (hb hne k hk).1 e; exact (hb hne k hk).2 e), fun hne j hj => ⟨fun hF => by
    rcases h.grew j hF with e | e
    · exact (hb hne j hj).1 e
    · have := hv.blk_lt hne j hj; omega, (hb hne j hj).2⟩⟩

theorem LWent.hasU {F' : Nat → Prop} {d' : Dk} {l' : Lg} (h : LWent w0 w w' F F' B L d' l') {v : Value} {us : List (List UInt8)} (hv : HasU (fun j => ¬ F j ∧ j ≠ L) w v us) : HasU (fun j => ¬ F' j ∧ j ≠ L) w' v us := by
  have h1 := hv.mono (Q := fun j => (¬ F' j ∧ j ≠ L) ∧ (¬ F j ∧ j ≠ L)) (fun k hk hp => ⟨⟨fun hF => by
    rcases h.grew k hF with e | e
    · exact hp.1 e
    · omega, hp.2⟩, hp⟩)
  exact (h1.only h.only (fun k _ hp e => by rcases e with e | e; exact hp.2.1 e; exact hp.2.2 e)).mono (fun _ _ h => h.1)

theorem Has.chunk {ao : Option Addr} {len cap : Nat} {laid : List UInt8} (h : Has w (.slice ao len cap) laid) (k : Nat) (hk : (k + 1) * 64 ≤ laid.length) : Has w (.slice (ao.map (fun x => x.add (k * 64))) 64 (cap - k * 64)) (chunk laid k) := by
  have h1 := h.back (n := k * 64) (by omega)
  exact h1.front (n := 64) (by simp; omega)

set_option maxHeartbeats 1000000 in
theorem write_any (h : Logs w0 w F B L d l) (at' : Nat) (hat : at' ≤ 100000) (xv : Value) (laid : List UInt8) (hx : Has w xv laid) (hxb : laid ≠ [] → ∀ j, blk xv = some j → ¬ F j ∧ j ≠ L) (hll : laid.length ≤ 10000000) (hwk : d.works + laid.length / 64 + 1 ≤ 900000) :
    Calls Try.prog 72 #[.pointer (some ⟨L, 0, none⟩), .int .i64 at', xv] w fun e w' => e = .returned (.int .i64 (wr d at' laid).2) ∧ ∃ F', LWent w0 w w' F F' B L (wr d at' laid).1 l := by
  obtain ⟨ao, cap, hxv, hlc, hmc⟩ := hx.shape
  subst hxv
  obtain ⟨n, hn⟩ : ∃ n, n = laid.length / 64 := ⟨_, rfl⟩
  have hq : (laid.length : Int) / 64 = (n : Int) := by omega
  have hnl : n * 64 ≤ laid.length := by omega
  have hn2 : n ≤ 156250 := by omega
  have H := hide h
  have HX := hide hx
  have HXB := hide hxb
  rw [← hn] at hwk
  have HWR : Hid (wr d at' laid = wrFrom at' laid n 0 d) := by show wr d at' laid = _; unfold wr; rw [hn]
  have hcap : (laid.length : Int) ≤ cap := by omega
  clear h hx hxb hn hlc
  go_enter Try.func72, Try.ntmps72
  go_wp2_with fail
  go_loopw [12] (fun i wr => ∃ k F' d', k ≤ n ∧ i = .int .i64 k ∧ LWent w0 w wr F F' B L d' l ∧ Hid (wrFrom at' laid n 0 d = wrFrom at' laid (n - k) k d') ∧ d'.works ≤ d.works + k ∧ Hid (d'.secs.length = d.secs.length)) (fun i _ => n - (intOf i).toNat)
  case atStart => exact ⟨0, F, d, Nat.zero_le _, rfl, LWent.refl (unhide H), by show _ = _; rw [Nat.sub_zero], Nat.le_refl _, rfl⟩
  case round =>
    obtain ⟨k, F1, d1, hk, rfl, hwt, HEQ, hw1, HLN⟩ := hrel
    have HWT := hide hwt
    clear hwt
    obtain ⟨c0, c1, c2, c3, c4, c5, cf⟩ := (unhide HWT).lg.lg.cells
    by_cases hlt : k < n
    · have hlt' : (k : Int) < n := by omega
      have hkl : (k + 1) * 64 ≤ laid.length := by have : (k + 1) * 64 ≤ n * 64 := Nat.mul_le_mul_right 64 hlt; omega
      have hw64 : IntKind.i64.wrap ((k : Int) * 64) = ((k * 64 : Nat) : Int) := by rw [IntKind.wrap_i64]; omega
      have hwp : IntKind.i64.wrap ((k : Int) + 1) = ((k + 1 : Nat) : Int) := by rw [IntKind.wrap_i64]; omega
      have hwp2 : IntKind.i64.wrap (((k : Int) + 1) * 64) = ((k : Int) + 1) * 64 := by rw [IntKind.wrap_i64]; omega
      have hmx : max (((k : Int) + 1) * 64) 0 = ((k : Int) + 1) * 64 := Int.max_eq_left (by omega)
      have ht1 : ((k : Int) * 64).toNat = k * 64 := by omega
      have ht2 : (((k : Int) + 1) * 64).toNat - k * 64 = 64 := by omega
      have hcn : ¬ cap = k * 64 := by omega
      have hchk := hide (Has.chunk (unhide HX) k hkl)
      obtain ⟨sv, hsv⟩ : ∃ sv, sv = Value.slice (ao.map (fun x => x.add (k * 64))) 64 (cap - k * 64) := ⟨_, rfl⟩
      have hsb : blk sv = blk (.slice ao laid.length cap) := by rw [hsv]; exact blk_add _ _ _ _ _ _
      rw [← hsv] at hchk
      have HSB := hide hsb
      have HSV := hide hsv
      clear hsb hsv
      have hwa : IntKind.i64.wrap ((at' : Int) + k) = (at' : Int) + k := by rw [IntKind.wrap_i64]; omega
      have HAK : Hid ((at' : Int) + k = ((at' + k : Nat) : Int)) := by show (at' : Int) + k = ((at' + k : Nat) : Int); omega
      go_wp2_with fail
      refine wp_region_held_drew (S := (fun w' => w'.cell? ⟨L, 0, none⟩ = some (.pointer (some ⟨B, 0, none⟩)))) (by kernel_rfl) (c0) (fun hHeld => ?_)
      refine wpAnyH_take (i := 0) (v := ?v1) rfl (by kernel_rfl) (by kernel_rfl) (by kernel_rfl) (fun _ _ _ h => h) (Or.inl ⟨by rfl, ?hy1⟩) (by assumption) ?rest1
      case hy1 =>
        intro w hSw
        go_simp
        try with_reducible rfl
      try simp only [Act.put, List.setIfInBounds_toArray, List.set_cons_zero, List.set_cons_succ, List.getElem_toArray, List.getElem_cons_succ, List.getElem_cons_zero]
      refine wpAnyH_take (i := 1) (v := ?v2) rfl (by kernel_rfl) (by kernel_rfl) (by kernel_rfl) (fun _ _ _ h => h) (Or.inl ⟨by rfl, ?hy2⟩) (by assumption) ?rest2
      case hy2 =>
        intro w hSw
        go_simp
        try with_reducible rfl
      try simp only [Act.put, List.setIfInBounds_toArray, List.set_cons_zero, List.set_cons_succ, List.getElem_toArray, List.getElem_cons_succ, List.getElem_cons_zero]
      refine wpAnyH_take (i := 2) (v := ?v3) rfl (by kernel_rfl) (by kernel_rfl) (by kernel_rfl) (fun _ _ _ h => h) (Or.inl ⟨by rfl, ?hy3⟩) (by assumption) ?rest3
      case hy3 =>
        intro w hSw
        go_simp
        try with_reducible rfl
      try simp only [Act.put, List.setIfInBounds_toArray, List.set_cons_zero, List.set_cons_succ, List.getElem_toArray, List.getElem_cons_succ, List.getElem_cons_zero]
      refine wpAnyH_take (i := 3) (v := ?v4) rfl (by kernel_rfl) (by kernel_rfl) (by kernel_rfl) (fun _ _ _ h => h) (Or.inl ⟨by rfl, ?hy4⟩) (by assumption) ?rest4
      case hy4 =>
        intro w hSw
        go_simp
        try with_reducible rfl
      try simp only [Act.put, List.setIfInBounds_toArray, List.set_cons_zero, List.set_cons_succ, List.getElem_toArray, List.getElem_cons_succ, List.getElem_cons_zero]
      refine wpAnyH_take (i := 4) (v := ?v5) rfl (by kernel_rfl) (by kernel_rfl) (by kernel_rfl) (fun _ _ _ h => h) (Or.inl ⟨by rfl, ?hy5⟩) (by assumption) ?rest5
      case hy5 =>
        intro w hSw
        go_simp
        try with_reducible rfl
      try simp only [Act.put, List.setIfInBounds_toArray, List.set_cons_zero, List.set_cons_succ, List.getElem_toArray, List.getElem_cons_succ, List.getElem_cons_zero]
      refine wpAnyH_take (i := 5) (v := ?v6) rfl (by kernel_rfl) (by kernel_rfl) (by kernel_rfl) (fun _ _ _ h => h) (Or.inl ⟨by rfl, ?hy6⟩) (by assumption) ?rest6
      case hy6 =>
        intro w hSw
        go_simp
        try with_reducible rfl
      try simp only [Act.put, List.setIfInBounds_toArray, List.set_cons_zero, List.set_cons_succ, List.getElem_toArray, List.getElem_cons_succ, List.getElem_cons_zero]
      refine wpAnyH_take (i := 6) (v := ?v7) rfl (by kernel_rfl) (by kernel_rfl) (by kernel_rfl) (fun _ _ _ h => h) (Or.inl ⟨by rfl, ?hy7⟩) (by assumption) ?rest7
      case hy7 =>
        intro w hSw
        go_simp
        try with_reducible rfl
      try simp only [Act.put, List.setIfInBounds_toArray, List.set_cons_zero, List.set_cons_succ, List.getElem_toArray, List.getElem_cons_succ, List.getElem_cons_zero]
      refine wpAnyH_take (i := 7) (v := ?v8) rfl (by kernel_rfl) (by kernel_rfl) (by kernel_rfl) (fun _ _ _ h => h) (Or.inl ⟨by rfl, ?hy8⟩) (by assumption) ?rest8
      case hy8 =>
        intro w hSw
        go_simp
        try with_reducible rfl
      try simp only [Act.put, List.setIfInBounds_toArray, List.set_cons_zero, List.set_cons_succ, List.getElem_toArray, List.getElem_cons_succ, List.getElem_cons_zero]
      refine wpAnyH_take (i := 8) (v := ?v9) rfl (by kernel_rfl) (by kernel_rfl) (by kernel_rfl) (fun _ _ _ h => h) (Or.inl ⟨by rfl, ?hy9⟩) (by assumption) ?rest9
      case hy9 =>
        intro w hSw
        go_simp
        try with_reducible rfl
      try simp only [Act.put, List.setIfInBounds_toArray, List.set_cons_zero, List.set_cons_succ, List.getElem_toArray, List.getElem_cons_succ, List.getElem_cons_zero]
      refine wpAnyH_take (i := 9) (v := ?v10) rfl (by kernel_rfl) (by kernel_rfl) (by kernel_rfl) (fun _ _ _ h => h) (Or.inl ⟨by rfl, ?hy10⟩) (by assumption) ?rest10
      case hy10 =>
        intro w hSw
        go_simp
        try with_reducible rfl
      try simp only [Act.put, List.setIfInBounds_toArray, List.set_cons_zero, List.set_cons_succ, List.getElem_toArray, List.getElem_cons_succ, List.getElem_cons_zero]
      refine wpAnyH_take (i := 10) (v := ?v11) rfl (by kernel_rfl) (by kernel_rfl) (by kernel_rfl) (fun _ _ _ h => h) (Or.inl ⟨by rfl, ?hy11⟩) (by assumption) ?rest11
      case hy11 =>
        intro w hSw
        go_simp
        try with_reducible rfl
      try simp only [Act.put, List.setIfInBounds_toArray, List.set_cons_zero, List.set_cons_succ, List.getElem_toArray, List.getElem_cons_succ, List.getElem_cons_zero]
      refine wpAnyH_take (i := 11) (v := ?v12) rfl (by kernel_rfl) (by kernel_rfl) (by kernel_rfl) (fun _ _ _ h => h) (Or.inl ⟨by rfl, ?hy12⟩) (by assumption) ?rest12
      case hy12 =>
        intro w hSw
        go_simp
        try with_reducible rfl
      try simp only [Act.put, List.setIfInBounds_toArray, List.set_cons_zero, List.set_cons_succ, List.getElem_toArray, List.getElem_cons_succ, List.getElem_cons_zero]
      refine wpAnyH_take (i := 12) (v := ?v13) rfl (by kernel_rfl) (by kernel_rfl) (by kernel_rfl) (fun _ _ _ h => h) (Or.inl ⟨by rfl, ?hy13⟩) (by assumption) ?rest13
      case hy13 =>
        intro w hSw
        go_simp
        try with_reducible rfl
      try simp only [Act.put, List.setIfInBounds_toArray, List.set_cons_zero, List.set_cons_succ, List.getElem_toArray, List.getElem_cons_succ, List.getElem_cons_zero]
      refine wpAnyH_take (i := 13) (v := ?v14) rfl (by kernel_rfl) (by kernel_rfl) (by kernel_rfl) (fun _ _ _ h => h) (Or.inl ⟨by rfl, ?hy14⟩) (by assumption) ?rest14
      case hy14 =>
        intro w hSw
        (go_simp; rw [if_pos ⟨by omega, by omega⟩, if_pos ⟨by omega, by omega⟩, ← unhide HSV])
      try simp only [Act.put, List.setIfInBounds_toArray, List.set_cons_zero, List.set_cons_succ, List.getElem_toArray, List.getElem_cons_succ, List.getElem_cons_zero]
      have HPRE := hide ((unhide HWT).has (unhide HX) (unhide HXB))
      have HWD := hide (fun (w' : World) (o : Only (fun _ => False) wr w') => dks_write' ((unhide HWT).lg.same o).dk (by omega) ((at' + k : Nat) : Int) sv (chunk laid k) ((Has.chunk (unhide HPRE).1 k hkl).only o (fun _ _ _ h => h) |> fun h => by rw [unhide HSV]; exact h) (fun hne j hj => ((unhide HPRE).2 (fun e => hne (by rw [e]; simp [chunk])) j (by rw [← unhide HSB]; exact hj)).1))
      obtain ⟨we, hwe⟩ : ∃ we, we = d1.writeE ((at' + k : Nat) : Int) (chunk laid k) := ⟨_, rfl⟩
      obtain ⟨d2, hd2⟩ : ∃ d2, d2 = d1.write ((at' + k : Nat) : Int) (chunk laid k) := ⟨_, rfl⟩
      rw [← hwe, ← hd2] at HWD
      have HWE := hide hwe
      have HD2 := hide hd2
      have hd2w := Dk.write_works d1 ((at' + k : Nat) : Int) (chunk laid k)
      have hd2s := Dk.write_secs d1 ((at' + k : Nat) : Int) (chunk laid k)
      rw [← hd2] at hd2w hd2s
      have HD2S := hide hd2s
      clear hwe hd2 hd2s hchk
      refine wpAnyH_ready (rs := [14]) (by kernel_rfl) (by simp) ?_
      refine AllReadyH.cons rfl (fun K hK => ?_) AllReadyH.nil
      go_simp
      go_wp2_with fail; rw [unhide HAK]; refine (unhide HWD _ ((Only.refl _ _).drew)).mono ?_; rintro e w2 ⟨rfl, F2, hw2⟩; have HW2 := hide ((LWent.trans ⟨(unhide HWT).lg.same ((Only.refl _ wr).drew), (unhide HWT).only.drew, (unhide HWT).grew⟩ (((unhide HWT).lg.same ((Only.refl _ wr).drew)).went hw2 (by rw [unhide HD2S]) (by omega)))); have d0 := (unhide HW2).lg.lg.cells.1
      refine hK.out _ _ (d0) (fun hHeld => ?_)
      clear hK K
      try simp only [Act.put, List.setIfInBounds_toArray, List.set_cons_zero, List.set_cons_succ, List.getElem_toArray, List.getElem_cons_succ, List.getElem_cons_zero]
      refine wpAnyH_take (i := 15) (v := ?v15) rfl (by kernel_rfl) (by kernel_rfl) (by kernel_rfl) (fun _ _ _ h => h) (Or.inl ⟨by rfl, ?hy15⟩) (by assumption) ?rest15
      case hy15 =>
        intro w hSw
        go_simp
        try with_reducible rfl
      try simp only [Act.put, List.setIfInBounds_toArray, List.set_cons_zero, List.set_cons_succ, List.getElem_toArray, List.getElem_cons_succ, List.getElem_cons_zero]
      refine wpAnyH_done (by kernel_rfl) ?_ _
      have HST : Hid (wrFrom at' laid n 0 d = if we = 0 then wrFrom at' laid (n - (k + 1)) (k + 1) d2 else (d2, we)) := by
        show wrFrom at' laid n 0 d = _
        rw [unhide HEQ, show n - k = n - (k + 1) + 1 by omega, unhide HWE, unhide HD2]
        rfl
      have HLN2 : Hid (d2.secs.length = d.secs.length) := by show d2.secs.length = d.secs.length; rw [unhide HD2S, unhide HLN]
      clear hw2 d0 hHeld HWD c0 c1 c2 c3 c4 c5 cf hw64 hwp hwp2 hmx ht1 ht2 hcn hwa
      by_cases hwe0 : we = 0
      · rw [if_pos hwe0] at HST
        subst hwe0
        go_wp2
        go_roundw
        case rel => exact ⟨k + 1, F2, d2, by omega, by go_num, unhide HW2, HST, by omega, HLN2⟩
        case measure => simp [intOf]; omega
      · rw [if_neg hwe0] at HST
        go_wp2
        go_ret
        rw [unhide HWR, unhide HST]
        exact ⟨rfl, F2, unhide HW2⟩
    · obtain rfl : k = n := by omega
      have HFL := hide (dks_flush (unhide HWT).lg.dk (by omega))
      have HST : Hid (wrFrom at' laid k 0 d = (d1.flush, d1.flushE)) := by
        show wrFrom at' laid k 0 d = _
        rw [unhide HEQ, Nat.sub_self]
        rfl
      obtain ⟨fe, hfe⟩ : ∃ fe, fe = d1.flushE := ⟨_, rfl⟩
      rw [← hfe] at HFL HST
      clear hfe
      go_wp2_with fail
      refine (unhide HFL).mono ?_
      rintro e w2 ⟨rfl, F2, hw2⟩
      have HW2 := hide ((unhide HWT).trans ((unhide HWT).lg.went hw2 (Dk.flush_len d1) (by have := Dk.flush_works d1; omega)))
      go_wp2
      go_ret
      rw [unhide HWR, unhide HST]
      exact ⟨rfl, F2, unhide HW2⟩
end

end Wal
end Go.Proofs.Ytoffcbopolonoaa
