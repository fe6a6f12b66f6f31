/-
  wal's write.
  wal's commit.
  wal's Reset.
  wal's Append.
-/
import Derived.Test.YtmcobkcnpnfobaaGreatWalRead
namespace Go.Proofs.YtmcobkcnpnfobaaGreat
open Go.RowKit
set_option linter.unusedSimpArgs false
set_option linter.unusedVariables false

theorem Dk.write_secs (d : Dk) (k : Int) (bs : List UInt8) : (d.write k bs).secs = d.secs := by
  unfold Dk.write
  split
  · split <;> rfl
  · rfl
theorem Dk.write_works (d : Dk) (k : Int) (bs : List UInt8) : (d.write k bs).works ≤ d.works + 1 := by
  unfold Dk.write
  split
  · split
    · exact Nat.le_succ _
    · exact Nat.le_refl _
  · exact Nat.le_succ _
theorem Dk.flush_len (d : Dk) : d.flush.secs.length = d.secs.length := by
  unfold Dk.flush
  split
  · rfl
  · exact Secs.putAll_length _ _
theorem Dk.flush_works (d : Dk) : d.flush.works ≤ d.works + 1 := by
  unfold Dk.flush
  split
  · exact Nat.le_succ _
  · exact Nat.le_refl _

namespace Wal

theorem wrFrom_len (at' : Nat) (laid : List UInt8) : ∀ (r i : Nat) (d : Dk), (wrFrom at' laid r i d).1.secs.length = d.secs.length
  | 0, _, d => Dk.flush_len d
  | r + 1, i, d => by
    unfold wrFrom
    split
    · rw [wrFrom_len at' laid r (i + 1), Dk.write_secs]
    · rw [Dk.write_secs]
theorem wrFrom_works (at' : Nat) (laid : List UInt8) : ∀ (r i : Nat) (d : Dk), (wrFrom at' laid r i d).1.works ≤ d.works + r + 1
  | 0, _, d => Dk.flush_works d
  | r + 1, i, d => by
    unfold wrFrom
    split
    · have h1 := wrFrom_works at' laid r (i + 1) (d.write (at' + i : Nat) (chunk laid i))
      have h2 := Dk.write_works d (at' + i : Nat) (chunk laid i)
      omega
    · have h2 := Dk.write_works d (at' + i : Nat) (chunk laid i)
      show (d.write (at' + i : Nat) (chunk laid i)).works ≤ _
      omega
theorem wr_len (d : Dk) (at' : Nat) (laid : List UInt8) : (wr d at' laid).1.secs.length = d.secs.length := wrFrom_len _ _ _ _ _
theorem wr_works (d : Dk) (at' : Nat) (laid : List UInt8) : (wr d at' laid).1.works ≤ d.works + laid.length / 64 + 1 := wrFrom_works _ _ _ _ _
theorem half_len {d d' : Dk} (h : d'.secs.length = d.secs.length) : d'.half = d.half := by unfold Dk.half; rw [h]

/-- a call has turned the log and its disk alone -/
structure LWent (w0 w w' : World) (F : Nat → Prop) (F' : Nat → Prop) (B L : Nat) (d' : Dk) (l' : Lg) : Prop where
  lg : Logs w0 w' F' B L d' l'
  only : Only (fun k => F k ∨ k = L) w w'
  grew : ∀ k, F' k → F k ∨ w.heap.size ≤ k

section
variable {w0 w w' : World} {F : Nat → Prop} {B L : Nat} {d : Dk} {l : Lg}

theorem Logs.went (h : Logs w0 w F B L d l) {F' : Nat → Prop} {d' : Dk} (hw : Went w0 w w' F F' B d') (hl : d'.secs.length = d.secs.length) (hwk : d'.works ≤ 900000) : LWent w0 w w' F F' B L d' l := by
  have hlt := h.lt
  refine ⟨⟨hw.dk, hw.only.heap h.lg h.off, fun e => ?_, h.up, by rw [half_len hl]; exact h.fine, hwk⟩, hw.only.mono (fun _ _ e => Or.inl e), hw.grew⟩
  rcases hw.grew L e with e | e
  · exact h.off e
  · omega

theorem LWent.refl (h : Logs w0 w F B L d l) : LWent w0 w w F F B L d l := ⟨h, Only.refl _ _, fun _ e => Or.inl e⟩

theorem LWent.trans {w1 w2 : World} {F1 F2 : Nat → Prop} {d1 d2 : Dk} {l1 l2 : Lg} (h : LWent w0 w w1 F F1 B L d1 l1) (k : LWent w0 w1 w2 F1 F2 B L d2 l2) : LWent w0 w w2 F F2 B L d2 l2 := by
  have hs := h.only.size
  refine ⟨k.lg, h.only.trans k.only (fun i hi e => ?_), fun i e => ?_⟩
  · rcases e with e | e
    · rcases h.grew i e with e | e
      · exact Or.inl e
      · omega
    · exact Or.inr e
  · rcases k.grew i e with e | e
    · exact h.grew i e
    · exact Or.inr (by omega)

/-- what is read, and is none of the disk's blocks nor the log's, stays -/
theorem LWent.has {F' : Nat → Prop} {d' : Dk} {l' : Lg} (h : LWent w0 w w' F F' B L d' l') {v : Value} {bs : List UInt8} (hv : Has w v bs) (hb : bs ≠ [] → ∀ j, blk v = some j → ¬ F j ∧ j ≠ L) : Has w' v bs ∧ (bs ≠ [] → ∀ j, blk v = some j → ¬ F' j ∧ j ≠ L) :=
  ⟨hv.only h.only (fun hne k hk e => by rcases e with e | e; exact (hb hne k hk).1 e; exact (hb hne k hk).2 e), fun hne j hj => ⟨fun hF => by
    rcases h.grew j hF with e | e
    · exact (hb hne j hj).1 e
    · have := hv.blk_lt hne j hj; omega, (hb hne j hj).2⟩⟩

theorem LWent.hasU {F' : Nat → Prop} {d' : Dk} {l' : Lg} (h : LWent w0 w w' F F' B L d' l') {v : Value} {us : List (List UInt8)} (hv : HasU (fun j => ¬ F j ∧ j ≠ L) w v us) : HasU (fun j => ¬ F' j ∧ j ≠ L) w' v us := by
  have h1 := hv.mono (Q := fun j => (¬ F' j ∧ j ≠ L) ∧ (¬ F j ∧ j ≠ L)) (fun k hk hp => ⟨⟨fun hF => by
    rcases h.grew k hF with e | e
    · exact hp.1 e
    · omega, hp.2⟩, hp⟩)
  exact (h1.only h.only (fun k _ hp e => by rcases e with e | e; exact hp.2.1 e; exact hp.2.2 e)).mono (fun _ _ h => h.1)

theorem Has.chunk {ao : Option Addr} {len cap : Nat} {laid : List UInt8} (h : Has w (.slice ao len cap) laid) (k : Nat) (hk : (k + 1) * 64 ≤ laid.length) : Has w (.slice (ao.map (fun x => x.add (k * 64))) 64 (cap - k * 64)) (chunk laid k) := by
  have h1 := h.back (n := k * 64) (by omega)
  exact h1.front (n := 64) (by simp; omega)

set_option maxHeartbeats 1000000 in
theorem write_any (h : Logs w0 w F B L d l) (at' : Nat) (hat : at' ≤ 100000) (xv : Value) (laid : List UInt8) (hx : Has w xv laid) (hxb : laid ≠ [] → ∀ j, blk xv = some j → ¬ F j ∧ j ≠ L) (hll : laid.length ≤ 10000000) (hwk : d.works + laid.length / 64 + 1 ≤ 900000) :
    Calls Tryz.prog 114 #[.pointer (some ⟨L, 0, none⟩), .int .i64 at', xv] w fun e w' => e = .returned (.int .i64 (wr d at' laid).2) ∧ ∃ F', LWent w0 w w' F F' B L (wr d at' laid).1 l := by
  obtain ⟨ao, cap, hxv, hlc, hmc⟩ := hx.shape
  subst hxv
  obtain ⟨n, hn⟩ : ∃ n, n = laid.length / 64 := ⟨_, rfl⟩
  have hq : (laid.length : Int) / 64 = (n : Int) := by omega
  have hnl : n * 64 ≤ laid.length := by omega
  have hn2 : n ≤ 156250 := by omega
  have H := hide h
  have HX := hide hx
  have HXB := hide hxb
  rw [← hn] at hwk
  have HWR : Hid (wr d at' laid = wrFrom at' laid n 0 d) := by show wr d at' laid = _; unfold wr; rw [hn]
  have hcap : (laid.length : Int) ≤ cap := by omega
  clear h hx hxb hn hlc
  go_enter Tryz.func114, Tryz.ntmps114
  go_wp2_with fail
  go_loopw [12] (fun i wr => ∃ k F' d', k ≤ n ∧ i = .int .i64 k ∧ LWent w0 w wr F F' B L d' l ∧ Hid (wrFrom at' laid n 0 d = wrFrom at' laid (n - k) k d') ∧ d'.works ≤ d.works + k ∧ Hid (d'.secs.length = d.secs.length)) (fun i _ => n - (intOf i).toNat)
  case atStart => exact ⟨0, F, d, Nat.zero_le _, rfl, LWent.refl (unhide H), by show _ = _; rw [Nat.sub_zero], Nat.le_refl _, rfl⟩
  case round =>
    obtain ⟨k, F1, d1, hk, rfl, hwt, HEQ, hw1, HLN⟩ := hrel
    have HWT := hide hwt
    clear hwt
    obtain ⟨c0, c1, c2, c3, c4, c5, cf⟩ := (unhide HWT).lg.lg.cells
    by_cases hlt : k < n
    · have hlt' : (k : Int) < n := by omega
      have hkl : (k + 1) * 64 ≤ laid.length := by have : (k + 1) * 64 ≤ n * 64 := Nat.mul_le_mul_right 64 hlt; omega
      have hw64 : IntKind.i64.wrap ((k : Int) * 64) = ((k * 64 : Nat) : Int) := by rw [IntKind.wrap_i64]; omega
      have hwp : IntKind.i64.wrap ((k : Int) + 1) = ((k + 1 : Nat) : Int) := by rw [IntKind.wrap_i64]; omega
      have hwp2 : IntKind.i64.wrap (((k : Int) + 1) * 64) = ((k : Int) + 1) * 64 := by rw [IntKind.wrap_i64]; omega
      have hmx : max (((k : Int) + 1) * 64) 0 = ((k : Int) + 1) * 64 := Int.max_eq_left (by omega)
      have ht1 : ((k : Int) * 64).toNat = k * 64 := by omega
      have ht2 : (((k : Int) + 1) * 64).toNat - k * 64 = 64 := by omega
      have hcn : ¬ cap = k * 64 := by omega
      have hchk := hide (Has.chunk (unhide HX) k hkl)
      obtain ⟨sv, hsv⟩ : ∃ sv, sv = Value.slice (ao.map (fun x => x.add (k * 64))) 64 (cap - k * 64) := ⟨_, rfl⟩
      have hsb : blk sv = blk (.slice ao laid.length cap) := by rw [hsv]; exact blk_add _ _ _ _ _ _
      rw [← hsv] at hchk
      have HSB := hide hsb
      have HSV := hide hsv
      clear hsb hsv
      have hwa : IntKind.i64.wrap ((at' : Int) + k) = (at' : Int) + k := by rw [IntKind.wrap_i64]; omega
      have HAK : Hid ((at' : Int) + k = ((at' + k : Nat) : Int)) := by show (at' : Int) + k = ((at' + k : Nat) : Int); omega
      go_wp2_with fail
      refine wp_region_held_drew (S := (fun w' => w'.cell? ⟨L, 0, none⟩ = some (.pointer (some ⟨B, 0, none⟩)))) (by kernel_rfl) (c0) (fun hHeld => ?_)
      refine wpAnyH_take (i := 0) (v := ?v1) rfl (by kernel_rfl) (by kernel_rfl) (by kernel_rfl) (fun _ _ _ h => h) (Or.inl ⟨by rfl, ?hy1⟩) (by assumption) ?rest1
      case hy1 =>
        intro w hSw
        go_simp
        try with_reducible rfl
      try simp only [Act.put, List.setIfInBounds_toArray, List.set_cons_zero, List.set_cons_succ, List.getElem_toArray, List.getElem_cons_succ, List.getElem_cons_zero]
      refine wpAnyH_take (i := 1) (v := ?v2) rfl (by kernel_rfl) (by kernel_rfl) (by kernel_rfl) (fun _ _ _ h => h) (Or.inl ⟨by rfl, ?hy2⟩) (by assumption) ?rest2
      case hy2 =>
        intro w hSw
        go_simp
        try with_reducible rfl
      try simp only [Act.put, List.setIfInBounds_toArray, List.set_cons_zero, List.set_cons_succ, List.getElem_toArray, List.getElem_cons_succ, List.getElem_cons_zero]
      refine wpAnyH_take (i := 2) (v := ?v3) rfl (by kernel_rfl) (by kernel_rfl) (by kernel_rfl) (fun _ _ _ h => h) (Or.inl ⟨by rfl, ?hy3⟩) (by assumption) ?rest3
      case hy3 =>
        intro w hSw
        go_simp
        try with_reducible rfl
      try simp only [Act.put, List.setIfInBounds_toArray, List.set_cons_zero, List.set_cons_succ, List.getElem_toArray, List.getElem_cons_succ, List.getElem_cons_zero]
      refine wpAnyH_take (i := 3) (v := ?v4) rfl (by kernel_rfl) (by kernel_rfl) (by kernel_rfl) (fun _ _ _ h => h) (Or.inl ⟨by rfl, ?hy4⟩) (by assumption) ?rest4
      case hy4 =>
        intro w hSw
        go_simp
        try with_reducible rfl
      try simp only [Act.put, List.setIfInBounds_toArray, List.set_cons_zero, List.set_cons_succ, List.getElem_toArray, List.getElem_cons_succ, List.getElem_cons_zero]
      refine wpAnyH_take (i := 4) (v := ?v5) rfl (by kernel_rfl) (by kernel_rfl) (by kernel_rfl) (fun _ _ _ h => h) (Or.inl ⟨by rfl, ?hy5⟩) (by assumption) ?rest5
      case hy5 =>
        intro w hSw
        go_simp
        try with_reducible rfl
      try simp only [Act.put, List.setIfInBounds_toArray, List.set_cons_zero, List.set_cons_succ, List.getElem_toArray, List.getElem_cons_succ, List.getElem_cons_zero]
      refine wpAnyH_take (i := 5) (v := ?v6) rfl (by kernel_rfl) (by kernel_rfl) (by kernel_rfl) (fun _ _ _ h => h) (Or.inl ⟨by rfl, ?hy6⟩) (by assumption) ?rest6
      case hy6 =>
        intro w hSw
        go_simp
        try with_reducible rfl
      try simp only [Act.put, List.setIfInBounds_toArray, List.set_cons_zero, List.set_cons_succ, List.getElem_toArray, List.getElem_cons_succ, List.getElem_cons_zero]
      refine wpAnyH_take (i := 6) (v := ?v7) rfl (by kernel_rfl) (by kernel_rfl) (by kernel_rfl) (fun _ _ _ h => h) (Or.inl ⟨by rfl, ?hy7⟩) (by assumption) ?rest7
      case hy7 =>
        intro w hSw
        go_simp
        try with_reducible rfl
      try simp only [Act.put, List.setIfInBounds_toArray, List.set_cons_zero, List.set_cons_succ, List.getElem_toArray, List.getElem_cons_succ, List.getElem_cons_zero]
      refine wpAnyH_take (i := 7) (v := ?v8) rfl (by kernel_rfl) (by kernel_rfl) (by kernel_rfl) (fun _ _ _ h => h) (Or.inl ⟨by rfl, ?hy8⟩) (by assumption) ?rest8
      case hy8 =>
        intro w hSw
        go_simp
        try with_reducible rfl
      try simp only [Act.put, List.setIfInBounds_toArray, List.set_cons_zero, List.set_cons_succ, List.getElem_toArray, List.getElem_cons_succ, List.getElem_cons_zero]
      refine wpAnyH_take (i := 8) (v := ?v9) rfl (by kernel_rfl) (by kernel_rfl) (by kernel_rfl) (fun _ _ _ h => h) (Or.inl ⟨by rfl, ?hy9⟩) (by assumption) ?rest9
      case hy9 =>
        intro w hSw
        go_simp
        try with_reducible rfl
      try simp only [Act.put, List.setIfInBounds_toArray, List.set_cons_zero, List.set_cons_succ, List.getElem_toArray, List.getElem_cons_succ, List.getElem_cons_zero]
      refine wpAnyH_take (i := 9) (v := ?v10) rfl (by kernel_rfl) (by kernel_rfl) (by kernel_rfl) (fun _ _ _ h => h) (Or.inl ⟨by rfl, ?hy10⟩) (by assumption) ?rest10
      case hy10 =>
        intro w hSw
        go_simp
        try with_reducible rfl
      try simp only [Act.put, List.setIfInBounds_toArray, List.set_cons_zero, List.set_cons_succ, List.getElem_toArray, List.getElem_cons_succ, List.getElem_cons_zero]
      refine wpAnyH_take (i := 10) (v := ?v11) rfl (by kernel_rfl) (by kernel_rfl) (by kernel_rfl) (fun _ _ _ h => h) (Or.inl ⟨by rfl, ?hy11⟩) (by assumption) ?rest11
      case hy11 =>
        intro w hSw
        go_simp
        try with_reducible rfl
      try simp only [Act.put, List.setIfInBounds_toArray, List.set_cons_zero, List.set_cons_succ, List.getElem_toArray, List.getElem_cons_succ, List.getElem_cons_zero]
      refine wpAnyH_take (i := 11) (v := ?v12) rfl (by kernel_rfl) (by kernel_rfl) (by kernel_rfl) (fun _ _ _ h => h) (Or.inl ⟨by rfl, ?hy12⟩) (by assumption) ?rest12
      case hy12 =>
        intro w hSw
        go_simp
        try with_reducible rfl
      try simp only [Act.put, List.setIfInBounds_toArray, List.set_cons_zero, List.set_cons_succ, List.getElem_toArray, List.getElem_cons_succ, List.getElem_cons_zero]
      refine wpAnyH_take (i := 12) (v := ?v13) rfl (by kernel_rfl) (by kernel_rfl) (by kernel_rfl) (fun _ _ _ h => h) (Or.inl ⟨by rfl, ?hy13⟩) (by assumption) ?rest13
      case hy13 =>
        intro w hSw
        go_simp
        try with_reducible rfl
      try simp only [Act.put, List.setIfInBounds_toArray, List.set_cons_zero, List.set_cons_succ, List.getElem_toArray, List.getElem_cons_succ, List.getElem_cons_zero]
      refine wpAnyH_take (i := 13) (v := ?v14) rfl (by kernel_rfl) (by kernel_rfl) (by kernel_rfl) (fun _ _ _ h => h) (Or.inl ⟨by rfl, ?hy14⟩) (by assumption) ?rest14
      case hy14 =>
        intro w hSw
        (go_simp; rw [if_pos ⟨by omega, by omega⟩, if_pos ⟨by omega, by omega⟩, ← unhide HSV])
      try simp only [Act.put, List.setIfInBounds_toArray, List.set_cons_zero, List.set_cons_succ, List.getElem_toArray, List.getElem_cons_succ, List.getElem_cons_zero]
      have HPRE := hide ((unhide HWT).has (unhide HX) (unhide HXB))
      have HWD := hide (fun (w' : World) (o : Only (fun _ => False) wr w') => dks_write' ((unhide HWT).lg.same o).dk (by omega) ((at' + k : Nat) : Int) sv (chunk laid k) ((Has.chunk (unhide HPRE).1 k hkl).only o (fun _ _ _ h => h) |> fun h => by rw [unhide HSV]; exact h) (fun hne j hj => ((unhide HPRE).2 (fun e => hne (by rw [e]; simp [chunk])) j (by rw [← unhide HSB]; exact hj)).1))
      obtain ⟨we, hwe⟩ : ∃ we, we = d1.writeE ((at' + k : Nat) : Int) (chunk laid k) := ⟨_, rfl⟩
      obtain ⟨d2, hd2⟩ : ∃ d2, d2 = d1.write ((at' + k : Nat) : Int) (chunk laid k) := ⟨_, rfl⟩
      rw [← hwe, ← hd2] at HWD
      have HWE := hide hwe
      have HD2 := hide hd2
      have hd2w := Dk.write_works d1 ((at' + k : Nat) : Int) (chunk laid k)
      have hd2s := Dk.write_secs d1 ((at' + k : Nat) : Int) (chunk laid k)
      rw [← hd2] at hd2w hd2s
      have HD2S := hide hd2s
      clear hwe hd2 hd2s hchk
      refine wpAnyH_ready (rs := [14]) (by kernel_rfl) (by simp) ?_
      refine AllReadyH.cons rfl (fun K hK => ?_) AllReadyH.nil
      go_simp
      go_wp2_with fail; rw [unhide HAK]; refine (unhide HWD _ ((Only.refl _ _).drew)).mono ?_; rintro e w2 ⟨rfl, F2, hw2⟩; have HW2 := hide ((LWent.trans ⟨(unhide HWT).lg.same ((Only.refl _ wr).drew), (unhide HWT).only.drew, (unhide HWT).grew⟩ (((unhide HWT).lg.same ((Only.refl _ wr).drew)).went hw2 (by rw [unhide HD2S]) (by omega)))); have d0 := (unhide HW2).lg.lg.cells.1
      refine hK.out _ _ (d0) (fun hHeld => ?_)
      clear hK K
      try simp only [Act.put, List.setIfInBounds_toArray, List.set_cons_zero, List.set_cons_succ, List.getElem_toArray, List.getElem_cons_succ, List.getElem_cons_zero]
      refine wpAnyH_take (i := 15) (v := ?v15) rfl (by kernel_rfl) (by kernel_rfl) (by kernel_rfl) (fun _ _ _ h => h) (Or.inl ⟨by rfl, ?hy15⟩) (by assumption) ?rest15
      case hy15 =>
        intro w hSw
        go_simp
        try with_reducible rfl
      try simp only [Act.put, List.setIfInBounds_toArray, List.set_cons_zero, List.set_cons_succ, List.getElem_toArray, List.getElem_cons_succ, List.getElem_cons_zero]
      refine wpAnyH_done (by kernel_rfl) ?_ _
      have HST : Hid (wrFrom at' laid n 0 d = if we = 0 then wrFrom at' laid (n - (k + 1)) (k + 1) d2 else (d2, we)) := by
        show wrFrom at' laid n 0 d = _
        rw [unhide HEQ, show n - k = n - (k + 1) + 1 by omega, unhide HWE, unhide HD2]
        rfl
      have HLN2 : Hid (d2.secs.length = d.secs.length) := by show d2.secs.length = d.secs.length; rw [unhide HD2S, unhide HLN]
      clear hw2 d0 hHeld HWD c0 c1 c2 c3 c4 c5 cf hw64 hwp hwp2 hmx ht1 ht2 hcn hwa
      by_cases hwe0 : we = 0
      · rw [if_pos hwe0] at HST
        subst hwe0
        go_wp2
        go_roundw
        case rel => exact ⟨k + 1, F2, d2, by omega, by go_num, unhide HW2, HST, by omega, HLN2⟩
        case measure => simp [intOf]; omega
      · rw [if_neg hwe0] at HST
        go_wp2
        go_ret
        rw [unhide HWR, unhide HST]
        exact ⟨rfl, F2, unhide HW2⟩
    · obtain rfl : k = n := by omega
      have HFL := hide (dks_flush (unhide HWT).lg.dk (by omega))
      have HST : Hid (wrFrom at' laid k 0 d = (d1.flush, d1.flushE)) := by
        show wrFrom at' laid k 0 d = _
        rw [unhide HEQ, Nat.sub_self]
        rfl
      obtain ⟨fe, hfe⟩ : ∃ fe, fe = d1.flushE := ⟨_, rfl⟩
      rw [← hfe] at HFL HST
      clear hfe
      go_wp2_with fail
      refine (unhide HFL).mono ?_
      rintro e w2 ⟨rfl, F2, hw2⟩
      have HW2 := hide ((unhide HWT).trans ((unhide HWT).lg.went hw2 (Dk.flush_len d1) (by have := Dk.flush_works d1; omega)))
      go_wp2
      go_ret
      rw [unhide HWR, unhide HST]
      exact ⟨rfl, F2, unhide HW2⟩
end

end Wal
end Go.Proofs.YtmcobkcnpnfobaaGreat

namespace Go.Proofs.YtmcobkcnpnfobaaGreat
open Go.RowKit
set_option linter.unusedSimpArgs false
set_option linter.unusedVariables false
namespace Wal

theorem LWent.box {w0 w w1 w' : World} {F F' : Nat → Prop} {B L : Nat} {d' : Dk} {l' : Lg} (ho : Only (fun _ => False) w w1) (h : LWent w0 w1 w' F F' B L d' l') : LWent w0 w w' F F' B L d' l' :=
  ⟨h.lg, (ho.mono (fun _ _ e => e.elim)).trans h.only (fun _ _ e => e), fun k e => by have := ho.size; rcases h.grew k e with e | e; exact Or.inl e; exact Or.inr (by omega)⟩

theorem LWent.same {w0 w w1 w' : World} {F F' : Nat → Prop} {B L : Nat} {d' : Dk} {l' : Lg} (h : LWent w0 w w1 F F' B L d' l') (ho : Only (fun _ => False) w1 w') : LWent w0 w w' F F' B L d' l' :=
  ⟨h.lg.same ho, h.only.trans ho (fun _ _ e => e.elim), h.grew⟩

/-- a log's dead mark is set -/
theorem LgAt.kill {w : World} {L B : Nat} {l : Lg} (h : LgAt w L B l) : LgAt (w.setCell ⟨L, 5, none⟩ (.bool true)) L B { l with dead := true } := by
  unfold LgAt
  rw [two_setCell h]
  rfl

theorem LWent.turn {w0 w w1 w2 : World} {F F' : Nat → Prop} {B L : Nat} {d' : Dk} {l' l2 : Lg} (h : LWent w0 w w1 F F' B L d' l') (ha : LgAt w2 L B l2) (o2 : Only (fun k => k = L) w1 w2) (hf : l2.Fine d'.half) : LWent w0 w w2 F F' B L d' l2 := by
  have h2 := h.lg.put (Only.refl _ _) l2 ha o2 hf
  exact ⟨h2.1, h.only.trans o2 (fun _ _ e => Or.inr e), h.grew⟩

section
variable {w0 w w' : World} {F : Nat → Prop} {B L : Nat} {d : Dk} {l : Lg}

set_option maxHeartbeats 1000000 in
theorem commit_any (h : Logs w0 w F B L d l) (hd : Hd) (hE : hd.epoch < 18446744073709551616) (hA : hd.area ≤ 1) (hU : hd.used ≤ d.half) (at' : Nat) (hat : at' ≤ 100000) (xv : Value) (laid : List UInt8) (hx : Has w xv laid) (hxb : laid ≠ [] → ∀ j, blk xv = some j → ¬ F j ∧ j ≠ L) (hll : laid.length ≤ 10000000) (hwk : d.works + laid.length / 64 + 3 ≤ 900000) :
    Calls Tryz.prog 113 #[.pointer (some ⟨L, 0, none⟩), hv hd, .int .i64 at', xv] w fun e w' => e = .returned (.int .i64 (commit l d hd at' laid).e) ∧ ∃ F', LWent w0 w w' F F' B L (commit l d hd at' laid).dk (commit l d hd at' laid).lg := by
  have hh := half_le d h.dk.fine
  have hfn := h.fine.next
  have H := hide h
  have HX := hide hx
  have HXB := hide hxb
  have hoL : ¬ L = w.heap.size := by have := h.lt; omega
  have hFH : ¬ F w.heap.size := fun e => by have := h.dk.lt _ e; omega
  unfold hv
  clear h hx hxb
  obtain ⟨xo, xc, hxv, _⟩ := (unhide HX).shape
  subst hxv
  go_enter Tryz.func113, Tryz.ntmps113
  go_wp2_with fail
  have hB := heap_alloc_new w (.cells #[.int .u64 hd.epoch, .int .i64 hd.area, .int .i64 hd.used] 106)
  have o1 := (Only.refl (fun _ => False) w).alloc (.cells #[.int .u64 hd.epoch, .int .i64 hd.area, .int .i64 hd.used] 106)
  generalize w.alloc (.cells #[.int .u64 hd.epoch, .int .i64 hd.area, .int .i64 hd.used] 106) = w1 at *
  have HB := hide hB
  have HO1 := hide o1
  have HWA := hide (write_any ((unhide H).same o1) at' hat _ laid ((unhide HX).only o1 (fun _ _ _ h => h)) (unhide HXB) hll (by omega))
  have hwl := wr_len d at' laid
  have hww := wr_works d at' laid
  have HCM : Hid (commit l d hd at' laid = let b := if (wr d at' laid).2 = 0 then wr (wr d at' laid).1 l.next hd.lay else wr d at' laid; if b.2 = 0 then ⟨⟨hd, 1 - l.next, l.dead⟩, b.1, 0⟩ else ⟨{ l with dead := true }, b.1, b.2⟩) := rfl
  obtain ⟨da, hda⟩ : ∃ da, da = (wr d at' laid).1 := ⟨_, rfl⟩
  obtain ⟨ea, hea⟩ : ∃ ea, ea = (wr d at' laid).2 := ⟨_, rfl⟩
  have hpair : wr d at' laid = (da, ea) := by rw [hda, hea]
  rw [hpair] at HCM HWA hwl hww
  simp only at HCM HWA hwl hww
  have HLN := hide hwl
  clear hpair hda hea hB o1 hwl
  refine (unhide HWA).mono ?_
  rintro e w2 ⟨rfl, F2, hw2⟩
  have HW2 := hide (hw2.box (unhide HO1))
  have HB2 := hide (hw2.only.heap (unhide HB) (fun e => by rcases e with e | e; exact hFH e; exact hoL e.symm))
  have hF2 : ¬ F2 w.heap.size := fun e => by
    rcases hw2.grew _ e with e | e
    · exact hFH e
    · have := lt_of_block (unhide HB); omega
  clear hw2 HWA
  by_cases hea : ea = 0
  · rw [if_pos hea] at HCM
    subst hea
    obtain ⟨c0, c1, c2, c3, c4, c5, cf⟩ := (unhide HW2).lg.lg.cells
    obtain ⟨k0, k1, k2, kf⟩ := cells_three (unhide HB2)
    have hwl := wr_len da l.next hd.lay
    have hww2 := wr_works da l.next hd.lay
    rw [Hd.lay_length] at hww2
    have HWB := hide (fun (w3 : World) (F3 : Nat → Prop) (hl3 : Logs w0 w3 F3 B L da l) (y : Value) (hy : Has w3 y hd.lay) (hyb : hd.lay ≠ [] → ∀ j, blk y = some j → ¬ F3 j ∧ j ≠ L) => write_any hl3 l.next (by omega) y hd.lay hy hyb (by rw [Hd.lay_length]; decide) (by rw [Hd.lay_length]; omega))
    obtain ⟨db, hdb⟩ : ∃ db, db = (wr da l.next hd.lay).1 := ⟨_, rfl⟩
    obtain ⟨eb, heb⟩ : ∃ eb, eb = (wr da l.next hd.lay).2 := ⟨_, rfl⟩
    have hpair : wr da l.next hd.lay = (db, eb) := by rw [hdb, heb]
    rw [hpair] at HCM HWB hwl hww2
    simp only at HCM HWB hwl hww2
    have HLN2 := hide hwl
    clear hpair hdb heb hwl
    go_wp2_with fail
    refine wp_region_held_drew (S := (fun w' => w'.cell? ⟨L, 4, none⟩ = some (.int .i64 l.next) ∧ w'.cell? ⟨w.heap.size, 0, none⟩ = some (.int .u64 hd.epoch) ∧ w'.cell? ⟨w.heap.size, 1, none⟩ = some (.int .i64 hd.area) ∧ w'.cell? ⟨w.heap.size, 2, none⟩ = some (.int .i64 hd.used))) (by kernel_rfl) (⟨c4, k0, k1, k2⟩) (fun hHeld => ?_)
    refine wpAnyH_take (i := 0) (v := ?v16) rfl (by kernel_rfl) (by kernel_rfl) (by kernel_rfl) (fun _ _ _ h => h) (Or.inl ⟨by rfl, ?hy16⟩) (by assumption) ?rest16
    case hy16 =>
      intro w hSw
      go_simp
      try with_reducible rfl
    try simp only [Act.put, List.setIfInBounds_toArray, List.set_cons_zero, List.set_cons_succ, List.getElem_toArray, List.getElem_cons_succ, List.getElem_cons_zero]
    refine wpAnyH_take (i := 1) (v := ?v17) rfl (by kernel_rfl) (by kernel_rfl) (by kernel_rfl) (fun _ _ _ h => h) (Or.inl ⟨by rfl, ?hy17⟩) (by assumption) ?rest17
    case hy17 =>
      intro w hSw
      go_simp
      try with_reducible rfl
    try simp only [Act.put, List.setIfInBounds_toArray, List.set_cons_zero, List.set_cons_succ, List.getElem_toArray, List.getElem_cons_succ, List.getElem_cons_zero]
    refine wpAnyH_take (i := 2) (v := ?v18) rfl (by kernel_rfl) (by kernel_rfl) (by kernel_rfl) (fun _ _ _ h => h) (Or.inl ⟨by rfl, ?hy18⟩) (by assumption) ?rest18
    case hy18 =>
      intro w hSw
      go_simp
      try with_reducible rfl
    try simp only [Act.put, List.setIfInBounds_toArray, List.set_cons_zero, List.set_cons_succ, List.getElem_toArray, List.getElem_cons_succ, List.getElem_cons_zero]
    refine wpAnyH_take (i := 3) (v := ?v19) rfl (by kernel_rfl) (by kernel_rfl) (by kernel_rfl) (fun _ _ _ h => h) (Or.inl ⟨by rfl, ?hy19⟩) (by assumption) ?rest19
    case hy19 =>
      intro w hSw
      go_simp
      try with_reducible rfl
    try simp only [Act.put, List.setIfInBounds_toArray, List.set_cons_zero, List.set_cons_succ, List.getElem_toArray, List.getElem_cons_succ, List.getElem_cons_zero]
    refine wpAnyH_take (i := 4) (v := ?v20) rfl (by kernel_rfl) (by kernel_rfl) (by kernel_rfl) (fun _ _ _ h => h) (Or.inl ⟨by rfl, ?hy20⟩) (by assumption) ?rest20
    case hy20 =>
      intro w hSw
      (obtain ⟨q4, q0, q1, q2⟩ := hSw; go_simp; try with_reducible rfl)
    try simp only [Act.put, List.setIfInBounds_toArray, List.set_cons_zero, List.set_cons_succ, List.getElem_toArray, List.getElem_cons_succ, List.getElem_cons_zero]
    refine wpAnyH_take (i := 5) (v := ?v21) rfl (by kernel_rfl) (by kernel_rfl) (by kernel_rfl) (fun _ _ _ h => h) (Or.inl ⟨by rfl, ?hy21⟩) (by assumption) ?rest21
    case hy21 =>
      intro w hSw
      (obtain ⟨q4, q0, q1, q2⟩ := hSw; go_simp; try with_reducible rfl)
    try simp only [Act.put, List.setIfInBounds_toArray, List.set_cons_zero, List.set_cons_succ, List.getElem_toArray, List.getElem_cons_succ, List.getElem_cons_zero]
    refine wpAnyH_ready (rs := [6]) (by kernel_rfl) (by simp) ?_
    refine AllReadyH.cons rfl (fun K hK => ?_) AllReadyH.nil
    go_simp
    go_wp2_with fail; refine (headLay_any hd _ hE (by omega) (by omega)).mono ?_; rintro e w3 ⟨y3, rfl, hy3, o3⟩; have o23 : Only (fun _ => False) w2 w3 := ((Only.refl _ _).drew).trans o3 (fun _ _ e => e); have HW3 := hide ((unhide HW2).same o23); have HB3 := hide (o23.heap (unhide HB2) (fun h => h)); have c4' := (unhide HW3).lg.lg.cells.2.2.2.2.1; obtain ⟨k0', k1', k2', kf'⟩ := cells_three (unhide HB3); have HY3 : Hid (Has w3 y3 hd.lay ∧ ∀ j, blk y3 = some j → w2.heap.size ≤ j) := ⟨Has.ofOwns hy3.out, owns_fresh hy3⟩; clear hy3
    refine hK.out _ _ (⟨c4', k0', k1', k2'⟩) (fun hHeld => ?_)
    clear hK K
    try simp only [Act.put, List.setIfInBounds_toArray, List.set_cons_zero, List.set_cons_succ, List.getElem_toArray, List.getElem_cons_succ, List.getElem_cons_zero]
    refine wpAnyH_ready (rs := [7]) (by kernel_rfl) (by simp) ?_
    refine AllReadyH.cons rfl (fun K hK => ?_) AllReadyH.nil
    go_simp
    go_wp2_with fail; refine (unhide HWB w3 F2 (unhide HW3).lg y3 (unhide HY3).1 (fun _ j hj => by have := (unhide HY3).2 j hj; have h1 := (unhide HW2).lg.lt; exact ⟨fun e => by have := (unhide HW2).lg.dk.lt j e; omega, by omega⟩)).mono ?_; rintro e w4 ⟨rfl, F4, hw4⟩; have HW4 := hide ((unhide HW3).trans hw4); have HB4 := hide (hw4.only.heap (unhide HB3) (fun e => by rcases e with e | e; exact hF2 e; exact hoL e.symm)); have c4'' := (unhide HW4).lg.lg.cells.2.2.2.2.1; obtain ⟨k0'', k1'', k2'', kf''⟩ := cells_three (unhide HB4)
    refine hK.out _ _ (⟨c4'', k0'', k1'', k2''⟩) (fun hHeld => ?_)
    clear hK K
    try simp only [Act.put, List.setIfInBounds_toArray, List.set_cons_zero, List.set_cons_succ, List.getElem_toArray, List.getElem_cons_succ, List.getElem_cons_zero]
    refine wpAnyH_take (i := 8) (v := ?v22) rfl (by kernel_rfl) (by kernel_rfl) (by kernel_rfl) (fun _ _ _ h => h) (Or.inl ⟨by rfl, ?hy22⟩) (by assumption) ?rest22
    case hy22 =>
      intro w hSw
      go_simp
      try with_reducible rfl
    try simp only [Act.put, List.setIfInBounds_toArray, List.set_cons_zero, List.set_cons_succ, List.getElem_toArray, List.getElem_cons_succ, List.getElem_cons_zero]
    refine wpAnyH_done (by kernel_rfl) ?_ _
    clear c0 c1 c2 c3 c4 c5 cf k0 k1 k2 kf c4' k0' k1' k2' kf' c4'' k0'' k1'' k2'' kf'' hw4 o3 o23
    obtain ⟨c0, c1, c2, c3, c4, c5, cf⟩ := (unhide HW4).lg.lg.cells
    obtain ⟨k0, k1, k2, kf⟩ := cells_three (unhide HB4)
    by_cases heb : eb = 0
    · rw [if_pos heb] at HCM
      subst heb
      have HNX : Hid ((1 : Int) - l.next = ((1 - l.next : Nat) : Int)) := by show (1 : Int) - l.next = ((1 - l.next : Nat) : Int); omega
      go_wp2_with fail
      go_region
      rw [unhide HNX]
      have hP := (unhide HW4).lg.lg.put hd (1 - l.next)
      have hPO := Only.put (Only.refl (fun k => k = L) w4) (fun _ => rfl) (.int .u64 hd.epoch) (.int .i64 hd.area) (.int .i64 hd.used) (.int .i64 ((1 - l.next : Nat) : Int))
      generalize (((w4.setCell ⟨L, 1, none⟩ (.int .u64 hd.epoch)).setCell ⟨L, 2, none⟩ (.int .i64 hd.area)).setCell ⟨L, 3, none⟩ (.int .i64 hd.used)).setCell ⟨L, 4, none⟩ (.int .i64 ((1 - l.next : Nat) : Int)) = w5 at *
      have hF4 : db.half = d.half := half_len ((unhide HLN2).trans (unhide HLN))
      have HFIN := hide ((unhide HW4).turn (w2 := w5.drew) hP hPO.drew ⟨hE, hA, by rw [hF4]; exact hU, by show 1 - l.next ≤ 1; omega⟩)
      clear hP hPO hF4
      go_wp2
      go_ret
      rw [unhide HCM]
      exact ⟨rfl, F4, unhide HFIN⟩
    · rw [if_neg heb] at HCM
      go_wp2
      go_ret
      rw [unhide HCM]
      exact ⟨rfl, F4, (unhide HW4).turn (unhide HW4).lg.lg.kill ((Only.refl _ _).here _ _) ⟨(unhide HW4).lg.fine.epoch, (unhide HW4).lg.fine.area, (unhide HW4).lg.fine.used, (unhide HW4).lg.fine.next⟩⟩
  · rw [if_neg hea] at HCM
    simp only [if_neg hea] at HCM
    obtain ⟨c0, c1, c2, c3, c4, c5, cf⟩ := (unhide HW2).lg.lg.cells
    go_wp2
    go_ret
    rw [unhide HCM]
    exact ⟨rfl, F2, (unhide HW2).turn (unhide HW2).lg.lg.kill ((Only.refl _ _).here _ _) ⟨(unhide HW2).lg.fine.epoch, (unhide HW2).lg.fine.area, (unhide HW2).lg.fine.used, (unhide HW2).lg.fine.next⟩⟩
end

end Wal
end Go.Proofs.YtmcobkcnpnfobaaGreat

namespace Go.Proofs.YtmcobkcnpnfobaaGreat
open Go.RowKit
set_option linter.unusedSimpArgs false
set_option linter.unusedVariables false
namespace Wal

theorem next1_lt (e : Nat) : next1 e < 18446744073709551616 := Nat.mod_lt _ (by decide)
theorem next1_wrap (e : Nat) : IntKind.u64.wrap ((e : Int) + 1) = (next1 e : Int) := by
  rw [IntKind.wrap_u64]
  unfold next1
  omega

section
variable {w0 w w' : World} {F : Nat → Prop} {B L : Nat} {d : Dk} {l : Lg}

theorem start_le (h : d.Fine) (a : Nat) (ha : a ≤ 1) : start d a ≤ 2049 := by
  have := (half_le d h).1
  unfold start
  have : a * d.half ≤ 1 * d.half := Nat.mul_le_mul_right _ ha
  omega

set_option maxHeartbeats 1000000 in
theorem reset_any (h : Logs w0 w F B L d l) (xv : Value) (u : List UInt8) (hx : Has w xv u) (hxb : u ≠ [] → ∀ j, blk xv = some j → ¬ F j ∧ j ≠ L) (hul : u.length ≤ 100000000) (hwk : d.works ≤ 890000) :
    Calls Tryz.prog 110 #[.pointer (some ⟨L, 0, none⟩), xv] w fun e w' => e = .returned (.int .i64 (reset l d u).e) ∧ ∃ F', LWent w0 w w' F F' B L (reset l d u).dk (reset l d u).lg := by
  have hh := half_le d h.dk.fine
  have hfa := h.fine.area
  have hst := start_le h.dk.fine (1 - l.hd.area) (by omega)
  have H := hide h
  have HX := hide hx
  have HXB := hide hxb
  obtain ⟨c0, c1, c2, c3, c4, c5, cf⟩ := h.lg.cells
  have HRS : Hid (reset l d u = if l.dead then ⟨l, d, 9⟩ else if d.half < size u then ⟨l, d, 2⟩ else commit l d ⟨next1 l.hd.epoch, 1 - l.hd.area, size u⟩ (start d (1 - l.hd.area)) (lay u)) := rfl
  obtain ⟨xo, xc, hxv, _⟩ := hx.shape
  subst hxv
  clear h hx hxb
  obtain ⟨dead, hdead⟩ : ∃ dead, dead = l.dead := ⟨_, rfl⟩
  rw [← hdead] at c5 HRS
  have HSZ := hide (size_any _ u w (unhide HX) (by omega))
  have hs63 := secsOf_lt (8 + u.length)
  have hsz : size u ≤ 2000000 := by unfold size; omega
  clear hs63 hdead
  cases dead with
  | true =>
    go_enter Tryz.func110, Tryz.ntmps110
    go_wp2
    go_ret
    rw [unhide HRS]
    exact ⟨rfl, F, LWent.refl (unhide H)⟩
  | false =>
    rw [if_neg (by decide)] at HRS
    by_cases hfull : d.half < size u
    · rw [if_pos hfull] at HRS
      have hfi : (d.half : Int) < size u := by omega
      go_enter Tryz.func110, Tryz.ntmps110
      go_wp2_with fail
      refine (unhide HSZ).mono ?_
      rintro e w ⟨rfl, rfl⟩
      go_wp2_with fail
      refine (half_any (unhide H)).mono ?_
      rintro e w ⟨rfl, rfl⟩
      go_wp2
      go_ret
      rw [unhide HRS]
      exact ⟨rfl, F, LWent.refl (unhide H)⟩
    · rw [if_neg hfull] at HRS
      have hfi : ¬ (d.half : Int) < size u := by omega
      have hnw := next1_wrap l.hd.epoch
      have hnl := next1_lt l.hd.epoch
      have HAR : Hid ((1 : Int) - l.hd.area = ((1 - l.hd.area : Nat) : Int)) := by show (1 : Int) - l.hd.area = ((1 - l.hd.area : Nat) : Int); omega
      obtain ⟨ep, hep⟩ : ∃ ep, ep = next1 l.hd.epoch := ⟨_, rfl⟩
      obtain ⟨ar, har⟩ : ∃ ar, ar = 1 - l.hd.area := ⟨_, rfl⟩
      have har1 : ar ≤ 1 := by omega
      rw [← hep] at HRS hnw hnl
      rw [← har] at HRS HAR hst
      clear hep har
      go_enter Tryz.func110, Tryz.ntmps110
      go_wp2_with fail
      refine (unhide HSZ).mono ?_
      rintro e w ⟨rfl, rfl⟩
      go_wp2_with fail
      refine (half_any (unhide H)).mono ?_
      rintro e w ⟨rfl, rfl⟩
      go_wp2_with fail
      have hLlt := (unhide H).lt
      have a1 : ∀ o, (w.alloc o).cell? ⟨L, 1, none⟩ = some (.int .u64 l.hd.epoch) := fun o => by rw [World.cell?_alloc_past _ _ _ hLlt]; exact c1
      have a2 : ∀ o, (w.alloc o).cell? ⟨L, 2, none⟩ = some (.int .i64 l.hd.area) := fun o => by rw [World.cell?_alloc_past _ _ _ hLlt]; exact c2
      go_region
      rw [unhide HAR]
      have hB := heap_alloc_new w (.cells #[.int .u64 ep, .int .i64 ar, .int .i64 (size u)] 106)
      have o1 := ((Only.refl (fun _ => False) w).alloc (.cells #[.int .u64 ep, .int .i64 ar, .int .i64 (size u)] 106)).drew
      generalize (w.alloc (.cells #[.int .u64 ep, .int .i64 ar, .int .i64 (size u)] 106)) = wa at *
      obtain ⟨w1, hw1⟩ : ∃ w1, w1 = wa.drew := ⟨_, rfl⟩
      have hB1 : w1.heap[w.heap.size]? = some (.cells #[.int .u64 ep, .int .i64 ar, .int .i64 (size u)] 106) := by rw [hw1]; exact hB
      rw [← hw1] at o1 ⊢
      have HO1 := hide o1
      have HL1 := hide ((unhide H).same o1)
      have HX1 := hide ((unhide HX).only o1 (fun _ _ _ h => h))
      obtain ⟨k0, k1, k2, kf⟩ := cells_three hB1
      have HB1 := hide hB1
      have HLL : Hid ((lay u).length = size u * 64) := lay_length u
      have HST := hide (fun (w' : World) (o : Only (fun _ => False) w1 w') => start_any ((unhide HL1).same o) ar har1)
      have HCO := hide (fun (w3 : World) (o : Only (fun _ => False) w1 w3) (y : Value) (hy : Has w3 y (lay u)) (hyb : lay u ≠ [] → ∀ j, blk y = some j → ¬ F j ∧ j ≠ L) => commit_any ((unhide HL1).same o) ⟨ep, ar, size u⟩ hnl har1 (by show size u ≤ d.half; omega) (start d ar) (by omega) y (lay u) hy hyb (by rw [unhide HLL]; omega) (by rw [unhide HLL]; omega))
      unfold hv at HCO
      obtain ⟨st, hste⟩ : ∃ st, st = start d ar := ⟨_, rfl⟩
      rw [← hste] at HST HCO HRS hst
      obtain ⟨cm, hcm⟩ : ∃ cm, cm = commit l d ⟨ep, ar, size u⟩ st (lay u) := ⟨_, rfl⟩
      rw [← hcm] at HCO HRS
      clear hste hcm hB hw1 a1 a2 o1 hB1 hnw c0 c1 c2 c3 c4 c5 cf
      go_wp2_with fail
      refine wp_region_held_drew (S := (fun w' => w'.cell? ⟨w.heap.size, 0, none⟩ = some (.int .u64 ep) ∧ w'.cell? ⟨w.heap.size, 1, none⟩ = some (.int .i64 ar) ∧ w'.cell? ⟨w.heap.size, 2, none⟩ = some (.int .i64 (size u)))) (by kernel_rfl) (⟨k0, k1, k2⟩) (fun hHeld => ?_)
      refine wpAnyH_take (i := 0) (v := ?v23) rfl (by kernel_rfl) (by kernel_rfl) (by kernel_rfl) (fun _ _ _ h => h) (Or.inl ⟨by rfl, ?hy23⟩) (by assumption) ?rest23
      case hy23 =>
        intro w hSw
        go_simp
        try with_reducible rfl
      try simp only [Act.put, List.setIfInBounds_toArray, List.set_cons_zero, List.set_cons_succ, List.getElem_toArray, List.getElem_cons_succ, List.getElem_cons_zero]
      refine wpAnyH_take (i := 1) (v := ?v24) rfl (by kernel_rfl) (by kernel_rfl) (by kernel_rfl) (fun _ _ _ h => h) (Or.inl ⟨by rfl, ?hy24⟩) (by assumption) ?rest24
      case hy24 =>
        intro w hSw
        (obtain ⟨q0, q1, q2⟩ := hSw; go_simp; try with_reducible rfl)
      try simp only [Act.put, List.setIfInBounds_toArray, List.set_cons_zero, List.set_cons_succ, List.getElem_toArray, List.getElem_cons_succ, List.getElem_cons_zero]
      refine wpAnyH_take (i := 2) (v := ?v25) rfl (by kernel_rfl) (by kernel_rfl) (by kernel_rfl) (fun _ _ _ h => h) (Or.inl ⟨by rfl, ?hy25⟩) (by assumption) ?rest25
      case hy25 =>
        intro w hSw
        go_simp
        try with_reducible rfl
      try simp only [Act.put, List.setIfInBounds_toArray, List.set_cons_zero, List.set_cons_succ, List.getElem_toArray, List.getElem_cons_succ, List.getElem_cons_zero]
      refine wpAnyH_take (i := 3) (v := ?v26) rfl (by kernel_rfl) (by kernel_rfl) (by kernel_rfl) (fun _ _ _ h => h) (Or.inl ⟨by rfl, ?hy26⟩) (by assumption) ?rest26
      case hy26 =>
        intro w hSw
        go_simp
        try with_reducible rfl
      try simp only [Act.put, List.setIfInBounds_toArray, List.set_cons_zero, List.set_cons_succ, List.getElem_toArray, List.getElem_cons_succ, List.getElem_cons_zero]
      refine wpAnyH_take (i := 4) (v := ?v27) rfl (by kernel_rfl) (by kernel_rfl) (by kernel_rfl) (fun _ _ _ h => h) (Or.inl ⟨by rfl, ?hy27⟩) (by assumption) ?rest27
      case hy27 =>
        intro w hSw
        (obtain ⟨q0, q1, q2⟩ := hSw; go_simp; try with_reducible rfl)
      try simp only [Act.put, List.setIfInBounds_toArray, List.set_cons_zero, List.set_cons_succ, List.getElem_toArray, List.getElem_cons_succ, List.getElem_cons_zero]
      refine wpAnyH_take (i := 6) (v := ?v28) rfl (by kernel_rfl) (by kernel_rfl) (by kernel_rfl) (fun _ _ _ h => h) (Or.inl ⟨by rfl, ?hy28⟩) (by assumption) ?rest28
      case hy28 =>
        intro w hSw
        go_simp
        try with_reducible rfl
      try simp only [Act.put, List.setIfInBounds_toArray, List.set_cons_zero, List.set_cons_succ, List.getElem_toArray, List.getElem_cons_succ, List.getElem_cons_zero]
      refine wpAnyH_ready (rs := [5]) (by kernel_rfl) (by simp) ?_
      refine AllReadyH.cons rfl (fun K hK => ?_) AllReadyH.nil
      go_simp
      go_wp2_with fail; refine (unhide HST _ ((Only.refl _ _).drew)).mono ?_; rintro e w2 ⟨rfl, rfl⟩
      refine hK.out _ _ (⟨k0, k1, k2⟩) (fun hHeld => ?_)
      clear hK K
      try simp only [Act.put, List.setIfInBounds_toArray, List.set_cons_zero, List.set_cons_succ, List.getElem_toArray, List.getElem_cons_succ, List.getElem_cons_zero]
      refine wpAnyH_ready (rs := [7]) (by kernel_rfl) (by simp) ?_
      refine AllReadyH.cons rfl (fun K hK => ?_) AllReadyH.nil
      go_simp
      go_wp2_with fail; refine (lay_any _ u w1.drew (unhide HX1) (by omega)).mono ?_; rintro e w3 ⟨y3, rfl, hy3, o3⟩; have o13 : Only (fun _ => False) w1 w3 := ((Only.refl _ _).drew).trans o3 (fun _ _ e => e); obtain ⟨k0', k1', k2', kf'⟩ := cells_three (o13.heap (unhide HB1) (fun h => h)); have HY3 : Hid (Has w3 y3 (lay u) ∧ ∀ j, blk y3 = some j → w1.heap.size ≤ j) := ⟨Has.ofOwns hy3.out, owns_fresh hy3⟩; have HO13 := hide o13; clear hy3 o3 o13
      refine hK.out _ _ (⟨k0', k1', k2'⟩) (fun hHeld => ?_)
      clear hK K
      try simp only [Act.put, List.setIfInBounds_toArray, List.set_cons_zero, List.set_cons_succ, List.getElem_toArray, List.getElem_cons_succ, List.getElem_cons_zero]
      refine wpAnyH_ready (rs := [8]) (by kernel_rfl) (by simp) ?_
      refine AllReadyH.cons rfl (fun K hK => ?_) AllReadyH.nil
      go_simp
      go_wp2_with fail; refine (unhide HCO w3 (unhide HO13) y3 (unhide HY3).1 (fun _ j hj => by have := (unhide HY3).2 j hj; have := (unhide HL1).lt; exact ⟨fun e => by have := (unhide HL1).dk.lt j e; omega, by omega⟩)).mono ?_; rintro e w4 ⟨rfl, F4, hw4⟩; have HW4 := hide ((hw4.box (unhide HO13)).box (unhide HO1)); obtain ⟨k0'', k1'', k2'', kf''⟩ := cells_three ((hw4.box (unhide HO13)).only.heap (unhide HB1) (fun e => by have := (unhide H).lt; rcases e with e | e; have := (unhide H).dk.lt _ e; omega; omega)); clear hw4
      refine hK.out _ _ (⟨k0'', k1'', k2''⟩) (fun hHeld => ?_)
      clear hK K
      try simp only [Act.put, List.setIfInBounds_toArray, List.set_cons_zero, List.set_cons_succ, List.getElem_toArray, List.getElem_cons_succ, List.getElem_cons_zero]
      refine wpAnyH_take (i := 9) (v := ?v29) rfl (by kernel_rfl) (by kernel_rfl) (by kernel_rfl) (fun _ _ _ h => h) (Or.inl ⟨by rfl, ?hy29⟩) (by assumption) ?rest29
      case hy29 =>
        intro w hSw
        go_simp
        try with_reducible rfl
      try simp only [Act.put, List.setIfInBounds_toArray, List.set_cons_zero, List.set_cons_succ, List.getElem_toArray, List.getElem_cons_succ, List.getElem_cons_zero]
      refine wpAnyH_done (by kernel_rfl) ?_ _
      go_wp2
      go_ret
      rw [unhide HRS]
      exact ⟨rfl, F4, unhide HW4⟩
end

end Wal
end Go.Proofs.YtmcobkcnpnfobaaGreat

namespace Go.Proofs.YtmcobkcnpnfobaaGreat
open Go.RowKit
set_option linter.unusedSimpArgs false
set_option linter.unusedVariables false
namespace Wal

theorem sizes_take (us : List (List UInt8)) (k : Nat) (h : k < us.length) : sizes (us.take (k + 1)) = sizes (us.take k) + size us[k] := by
  unfold sizes
  rw [List.take_succ_eq_append_getElem h, List.map_append, List.sum_append, List.map_singleton, List.sum_singleton]
theorem sizes_le (us : List (List UInt8)) (k : Nat) : sizes (us.take k) ≤ sizes us := by
  have : us = us.take k ++ us.drop k := by simp
  unfold sizes
  conv => rhs; rw [this, List.map_append, List.sum_append]
  exact Nat.le_add_right _ _
theorem layAll_take (us : List (List UInt8)) (k : Nat) (h : k < us.length) : layAll (us.take (k + 1)) = layAll (us.take k) ++ lay us[k] := by
  unfold layAll
  rw [List.take_succ_eq_append_getElem h, List.flatMap_append, List.flatMap_singleton]
theorem layAll_length (us : List (List UInt8)) : (layAll us).length = sizes us * 64 := by
  unfold layAll sizes
  induction us with
  | nil => rfl
  | cons u r ih => rw [List.flatMap_cons, List.length_append, ih, lay_length, List.map_cons, List.sum_cons, Nat.add_mul]
theorem size_ge (u : List UInt8) : u.length ≤ size u * 64 := by have := secsOf_ge (8 + u.length); unfold size; omega
theorem size_le_sizes (us : List (List UInt8)) (k : Nat) (h : k < us.length) : size us[k] ≤ sizes us := by
  have h1 := sizes_take us k h
  have h2 := sizes_le us (k + 1)
  omega
theorem len_le_sizes (us : List (List UInt8)) : us.length ≤ sizes us := by
  unfold sizes
  induction us with
  | nil => simp
  | cons u r ih => rw [List.map_cons, List.sum_cons, List.length_cons]; have := size_pos u; omega

section
variable {w0 w w' : World} {F : Nat → Prop} {B L : Nat} {d : Dk} {l : Lg}

set_option maxHeartbeats 2000000 in
theorem append_any (h : Logs w0 w F B L d l) (xv : Value) (us : List (List UInt8)) (hx : HasU (fun j => ¬ F j ∧ j ≠ L) w xv us) (hss : sizes us ≤ 10000000) (hwk : d.works ≤ 890000) :
    Calls Tryz.prog 109 #[.pointer (some ⟨L, 0, none⟩), xv] w fun e w' => e = .returned (.int .i64 (append l d us).e) ∧ ∃ F', LWent w0 w w' F F' B L (append l d us).dk (append l d us).lg := by
  have hh := half_le d h.dk.fine
  have hfa := h.fine.area
  have hfu := h.fine.used
  have hst := start_le h.dk.fine l.hd.area hfa
  have hul := len_le_sizes us
  have H := hide h
  have HX := hide hx
  obtain ⟨c0, c1, c2, c3, c4, c5, cf⟩ := h.lg.cells
  have HRS : Hid (append l d us = if l.dead then ⟨l, d, 9⟩ else if us = [] then ⟨l, d, 0⟩ else if d.half < l.hd.used + sizes us then ⟨l, d, 2⟩ else commit l d ⟨next1 l.hd.epoch, l.hd.area, l.hd.used + sizes us⟩ (start d l.hd.area + l.hd.used) (layAll us)) := rfl
  obtain ⟨xo, xc, hxv, hlc, hmc⟩ := hx.shape
  subst hxv
  clear h hx
  obtain ⟨dead, hdead⟩ : ∃ dead, dead = l.dead := ⟨_, rfl⟩
  rw [← hdead] at c5 HRS
  clear hdead
  obtain ⟨n, hn⟩ : ∃ n, n = us.length := ⟨_, rfl⟩
  rw [← hn] at HX hlc hul ⊢
  have HN := hide hn
  have hnb : n ≤ 10000000 := by omega
  clear hn hlc
  cases dead with
  | true =>
    go_enter Tryz.func109, Tryz.ntmps109
    go_wp2
    go_ret
    rw [unhide HRS]
    exact ⟨rfl, F, LWent.refl (unhide H)⟩
  | false =>
    rw [if_neg (by decide)] at HRS
    by_cases hnil : us = []
    · rw [if_pos hnil] at HRS
      have hn0 : n = 0 := by rw [unhide HN, hnil]; rfl
      subst hn0
      clear hnil
      go_enter Tryz.func109, Tryz.ntmps109
      go_wp2
      go_ret
      rw [unhide HRS]
      exact ⟨rfl, F, LWent.refl (unhide H)⟩
    · rw [if_neg hnil] at HRS
      have hnp : 0 < n := by rw [unhide HN]; exact List.length_pos_iff.2 hnil
      have hn0 : ((n : Int) == 0) = false := by simp; omega
      clear hnil
      go_enter Tryz.func109, Tryz.ntmps109
      go_wp2_with fail
      go_loop [5, 21] (fun s i => ∃ k : Nat, k ≤ n ∧ i = .int .i64 k ∧ s = .int .i64 (sizes (us.take k) : Nat)) (fun _ i => n - (intOf i).toNat)
      case atStart => exact ⟨0, Nat.zero_le _, rfl, rfl⟩
      case round =>
        obtain ⟨k, hk, rfl, rfl⟩ := hrel
        have hsl := sizes_le us k
        by_cases hlt : k < n
        · have hku : k < us.length := by have := unhide HN; omega
          obtain ⟨bb, off, x, hao, hcx, hxh, hxp⟩ := (unhide HX).at k hku
          subst hao
          have hst1 := sizes_take us k hku
          have hs1 := size_le_sizes us k hku
          have hsg := size_ge us[k]
          have HS1 := hide hst1
          have hlt' : (k : Int) < n := by omega
          have HSZ := hide (size_any x us[k] w hxh (by omega))
          clear hst1 hxh hxp
          generalize sizes (us.take k) = sk at *
          go_wp2_with fail
          refine (unhide HSZ).mono ?_
          rintro e w1 ⟨rfl, hw1⟩
          subst hw1
          go_wp2
          go_round
          case rel => exact ⟨k + 1, by omega, by go_num, by rw [unhide HS1]; simp⟩
          case measure => simp [intOf]; omega
        · obtain rfl : n = k := by omega
          have htk : us.take n = us := List.take_of_length_le (by have := unhide HN; omega)
          rw [htk]
          clear htk hsl
          by_cases hfull : d.half < l.hd.used + sizes us
          · rw [if_pos hfull] at HRS
            have hfi : (d.half : Int) - l.hd.used < sizes us := by omega
            go_wp2_with fail
            refine (room_any (unhide H)).mono ?_
            rintro e w1 ⟨rfl, nq, rfl⟩
            go_wp2
            go_ret
            rw [unhide HRS]
            exact ⟨rfl, F, (LWent.refl (unhide H)).same (Only.drews nq)⟩
          · rw [if_neg hfull] at HRS
            have hfi : ¬ (d.half : Int) - l.hd.used < sizes us := by omega
            go_wp2_with fail
            refine (room_any (unhide H)).mono ?_
            rintro e w1 ⟨rfl, nq, hw1⟩
            have o1 : Only (fun _ => False) w w1 := by rw [hw1]; exact Only.drews nq
            clear hw1
            go_wp2_with fail
            refine (WO.mine_new w1).mono ?_
            rintro e w2 ⟨wb, rfl, m2⟩
            have HM2 := hide (m2.back o1)
            clear m2 o1 c0 c1 c2 c3 c4 c5 cf
            go_wp2_with fail
            go_loopw [37] (fun i wr => ∃ k, k ≤ n ∧ i = .int .i64 k ∧ WO.Mine w wr wb (layAll (us.take k))) (fun i _ => n - (intOf i).toNat)
            case atStart => exact ⟨0, Nat.zero_le _, rfl, unhide HM2⟩
            case round =>
              obtain ⟨k, hk, rfl, hm⟩ := hrel
              have HM := hide hm
              have hsl := sizes_le us k
              have HLL := hide (layAll_length (us.take k))
              clear hm
              by_cases hlt : k < n
              · have hku : k < us.length := by have := unhide HN; omega
                have hlt' : (k : Int) < n := by omega
                obtain ⟨bb, off, x, hao, hcx, hxh, hxp⟩ := ((unhide HX).only (unhide HM).only (fun _ _ _ h => h)).at k hku
                subst hao
                have hs1 := size_le_sizes us k hku
                have hsg := size_ge us[k]
                have HT := hide (layAll_take us k hku)
                have HLY := hide (lay_any x us[k] wr hxh (by omega))
                have HLN := hide (lay_length us[k])
                clear hxh hxp
                generalize us[k] = u at *
                generalize layAll (us.take k) = la at *
                go_wp2_with fail
                refine (unhide HLY).mono ?_
                rintro e w3 ⟨y3, rfl, hy3, o3⟩
                have HY3 := hide (WO.mine_raw ((unhide HM).same o3) y3 (lay u) (Has.ofOwns hy3.out) (by rw [unhide HLL, unhide HLN]; omega))
                clear hy3 o3
                go_wp2_with fail
                refine (unhide HY3).mono ?_
                rintro e w4 ⟨rfl, m4⟩
                rw [← unhide HT] at m4
                have HM4 := hide m4
                clear m4
                go_wp2_with fail
                go_roundw
                case rel => exact ⟨k + 1, by omega, by go_num, unhide HM4⟩
                case measure => simp [intOf]; omega
              · obtain rfl : n = k := by omega
                have htk : us.take n = us := List.take_of_length_le (by have := unhide HN; omega)
                rw [htk] at HM HLL
                clear htk hsl
                have HL := hide ((unhide H).same (unhide HM).only)
                obtain ⟨c0, c1, c2, c3, c4, c5, cf⟩ := (unhide HL).lg.cells
                have hnw := next1_wrap l.hd.epoch
                have hnl := next1_lt l.hd.epoch
                obtain ⟨ep, hep⟩ : ∃ ep, ep = next1 l.hd.epoch := ⟨_, rfl⟩
                rw [← hep] at HRS hnw hnl
                obtain ⟨us1, hus1⟩ : ∃ us1, us1 = l.hd.used + sizes us := ⟨_, rfl⟩
                rw [← hus1] at HRS
                have hus2 : IntKind.i64.wrap ((l.hd.used : Int) + (sizes us : Int)) = (us1 : Int) := by rw [IntKind.wrap_i64]; omega
                have HUS1 := hide hus1
                clear hep hus1
                have hLlt := (unhide HL).lt
                have a1 : ∀ o, (wr.alloc o).cell? ⟨L, 1, none⟩ = some (.int .u64 l.hd.epoch) := fun o => by rw [World.cell?_alloc_past _ _ _ hLlt]; exact c1
                have a2 : ∀ o, (wr.alloc o).cell? ⟨L, 2, none⟩ = some (.int .i64 l.hd.area) := fun o => by rw [World.cell?_alloc_past _ _ _ hLlt]; exact c2
                have a3 : ∀ o, (wr.alloc o).cell? ⟨L, 3, none⟩ = some (.int .i64 l.hd.used) := fun o => by rw [World.cell?_alloc_past _ _ _ hLlt]; exact c3
                go_wp2_with fail
                go_region
                have hB := heap_alloc_new wr (.cells #[.int .u64 ep, .int .i64 l.hd.area, .int .i64 us1] 106)
                have o1 := ((Only.refl (fun _ => False) wr).alloc (.cells #[.int .u64 ep, .int .i64 l.hd.area, .int .i64 us1] 106)).drew
                generalize (wr.alloc (.cells #[.int .u64 ep, .int .i64 l.hd.area, .int .i64 us1] 106)) = wa at *
                obtain ⟨w1, hw1⟩ : ∃ w1, w1 = wa.drew := ⟨_, rfl⟩
                have hB1 : w1.heap[wr.heap.size]? = some (.cells #[.int .u64 ep, .int .i64 l.hd.area, .int .i64 us1] 106) := by rw [hw1]; exact hB
                rw [← hw1] at o1 ⊢
                have HO1 := hide o1
                have HL1 := hide ((unhide HL).same o1)
                have HM1 := hide ((unhide HM).same o1)
                obtain ⟨k0, k1, k2, kf⟩ := cells_three hB1
                have HB1 := hide hB1
                have HST := hide (fun (w' : World) (o : Only (fun _ => False) w1 w') => start_any ((unhide HL1).same o) l.hd.area hfa)
                have HCO := hide (fun (w3 : World) (o : Only (fun _ => False) w1 w3) (y : Value) (hy : Has w3 y (layAll us)) (hyb : layAll us ≠ [] → ∀ j, blk y = some j → ¬ F j ∧ j ≠ L) => commit_any ((unhide HL1).same o) ⟨ep, l.hd.area, us1⟩ hnl hfa (by show us1 ≤ d.half; have := unhide HUS1; omega) (start d l.hd.area + l.hd.used) (by omega) y (layAll us) hy hyb (by rw [unhide HLL]; omega) (by rw [unhide HLL]; have := unhide HUS1; omega))
                unfold hv at HCO
                obtain ⟨st, hste⟩ : ∃ st, st = start d l.hd.area := ⟨_, rfl⟩
                rw [← hste] at HST HCO HRS hst
                obtain ⟨sp, hspe⟩ : ∃ sp, sp = st + l.hd.used := ⟨_, rfl⟩
                rw [← hspe] at HCO HRS
                have hws : IntKind.i64.wrap ((st : Int) + (l.hd.used : Int)) = (sp : Int) := by rw [IntKind.wrap_i64]; omega
                obtain ⟨cm, hcm⟩ : ∃ cm, cm = commit l d ⟨ep, l.hd.area, us1⟩ sp (layAll us) := ⟨_, rfl⟩
                rw [← hcm] at HCO HRS
                clear hste hcm hB hw1 a1 a2 a3 o1 hB1 hnw hspe hus2 c0 c1 c2 c3 c4 c5 cf
                obtain ⟨c0, c1, c2, c3, c4, c5, cf⟩ := (unhide HL1).lg.cells
                go_wp2_with fail
                refine wp_region_held_drew (S := (fun w' => w'.cell? ⟨wr.heap.size, 0, none⟩ = some (.int .u64 ep) ∧ w'.cell? ⟨wr.heap.size, 1, none⟩ = some (.int .i64 l.hd.area) ∧ w'.cell? ⟨wr.heap.size, 2, none⟩ = some (.int .i64 us1))) (by kernel_rfl) (⟨k0, k1, k2⟩) (fun hHeld => ?_)
                refine wpAnyH_take (i := 0) (v := ?v30) rfl (by kernel_rfl) (by kernel_rfl) (by kernel_rfl) (fun _ _ _ h => h) (Or.inl ⟨by rfl, ?hy30⟩) (by assumption) ?rest30
                case hy30 =>
                  intro w hSw
                  go_simp
                  try with_reducible rfl
                try simp only [Act.put, List.setIfInBounds_toArray, List.set_cons_zero, List.set_cons_succ, List.getElem_toArray, List.getElem_cons_succ, List.getElem_cons_zero]
                refine wpAnyH_take (i := 1) (v := ?v31) rfl (by kernel_rfl) (by kernel_rfl) (by kernel_rfl) (fun _ _ _ h => h) (Or.inl ⟨by rfl, ?hy31⟩) (by assumption) ?rest31
                case hy31 =>
                  intro w hSw
                  (obtain ⟨q0, q1, q2⟩ := hSw; go_simp; try with_reducible rfl)
                try simp only [Act.put, List.setIfInBounds_toArray, List.set_cons_zero, List.set_cons_succ, List.getElem_toArray, List.getElem_cons_succ, List.getElem_cons_zero]
                refine wpAnyH_take (i := 2) (v := ?v32) rfl (by kernel_rfl) (by kernel_rfl) (by kernel_rfl) (fun _ _ _ h => h) (Or.inl ⟨by rfl, ?hy32⟩) (by assumption) ?rest32
                case hy32 =>
                  intro w hSw
                  go_simp
                  try with_reducible rfl
                try simp only [Act.put, List.setIfInBounds_toArray, List.set_cons_zero, List.set_cons_succ, List.getElem_toArray, List.getElem_cons_succ, List.getElem_cons_zero]
                refine wpAnyH_take (i := 3) (v := ?v33) rfl (by kernel_rfl) (by kernel_rfl) (by kernel_rfl) (fun _ _ _ h => h) (Or.inl ⟨by rfl, ?hy33⟩) (by assumption) ?rest33
                case hy33 =>
                  intro w hSw
                  go_simp
                  try with_reducible rfl
                try simp only [Act.put, List.setIfInBounds_toArray, List.set_cons_zero, List.set_cons_succ, List.getElem_toArray, List.getElem_cons_succ, List.getElem_cons_zero]
                refine wpAnyH_take (i := 4) (v := ?v34) rfl (by kernel_rfl) (by kernel_rfl) (by kernel_rfl) (fun _ _ _ h => h) (Or.inl ⟨by rfl, ?hy34⟩) (by assumption) ?rest34
                case hy34 =>
                  intro w hSw
                  (obtain ⟨q0, q1, q2⟩ := hSw; go_simp; try with_reducible rfl)
                try simp only [Act.put, List.setIfInBounds_toArray, List.set_cons_zero, List.set_cons_succ, List.getElem_toArray, List.getElem_cons_succ, List.getElem_cons_zero]
                refine wpAnyH_take (i := 6) (v := ?v35) rfl (by kernel_rfl) (by kernel_rfl) (by kernel_rfl) (fun _ _ _ h => h) (Or.inl ⟨by rfl, ?hy35⟩) (by assumption) ?rest35
                case hy35 =>
                  intro w hSw
                  go_simp
                  try with_reducible rfl
                try simp only [Act.put, List.setIfInBounds_toArray, List.set_cons_zero, List.set_cons_succ, List.getElem_toArray, List.getElem_cons_succ, List.getElem_cons_zero]
                refine wpAnyH_take (i := 7) (v := ?v36) rfl (by kernel_rfl) (by kernel_rfl) (by kernel_rfl) (fun _ _ _ h => h) (Or.inl ⟨by rfl, ?hy36⟩) (by assumption) ?rest36
                case hy36 =>
                  intro w hSw
                  go_simp
                  try with_reducible rfl
                try simp only [Act.put, List.setIfInBounds_toArray, List.set_cons_zero, List.set_cons_succ, List.getElem_toArray, List.getElem_cons_succ, List.getElem_cons_zero]
                refine wpAnyH_take (i := 8) (v := ?v37) rfl (by kernel_rfl) (by kernel_rfl) (by kernel_rfl) (fun _ _ _ h => h) (Or.inl ⟨by rfl, ?hy37⟩) (by assumption) ?rest37
                case hy37 =>
                  intro w hSw
                  go_simp
                  try with_reducible rfl
                try simp only [Act.put, List.setIfInBounds_toArray, List.set_cons_zero, List.set_cons_succ, List.getElem_toArray, List.getElem_cons_succ, List.getElem_cons_zero]
                refine wpAnyH_take (i := 9) (v := ?v38) rfl (by kernel_rfl) (by kernel_rfl) (by kernel_rfl) (fun _ _ _ h => h) (Or.inl ⟨by rfl, ?hy38⟩) (by assumption) ?rest38
                case hy38 =>
                  intro w hSw
                  go_simp
                  try with_reducible rfl
                try simp only [Act.put, List.setIfInBounds_toArray, List.set_cons_zero, List.set_cons_succ, List.getElem_toArray, List.getElem_cons_succ, List.getElem_cons_zero]
                refine wpAnyH_take (i := 12) (v := ?v39) rfl (by kernel_rfl) (by kernel_rfl) (by kernel_rfl) (fun _ _ _ h => h) (Or.inl ⟨by rfl, ?hy39⟩) (by assumption) ?rest39
                case hy39 =>
                  intro w hSw
                  go_simp
                  try with_reducible rfl
                try simp only [Act.put, List.setIfInBounds_toArray, List.set_cons_zero, List.set_cons_succ, List.getElem_toArray, List.getElem_cons_succ, List.getElem_cons_zero]
                refine wpAnyH_ready (rs := [5, 10]) (by kernel_rfl) (by simp) ?_
                refine (AllReadyH.cons rfl (fun K hK => ?_) (AllReadyH.cons rfl (fun K hK => ?_) AllReadyH.nil))
                · skip
                  go_simp
                  go_wp2_with fail; refine (unhide HST _ ((Only.refl _ _).drew)).mono ?_; rintro e w2 ⟨rfl, hw2⟩; subst hw2
                  refine hK.out _ _ (⟨k0, k1, k2⟩) (fun hHeld => ?_)
                  clear hK K
                  try simp only [Act.put, List.setIfInBounds_toArray, List.set_cons_zero, List.set_cons_succ, List.getElem_toArray, List.getElem_cons_succ, List.getElem_cons_zero]
                  refine wpAnyH_ready (rs := [10, 13]) (by kernel_rfl) (by simp) ?_
                  refine (AllReadyH.cons rfl (fun K hK => ?_) (AllReadyH.cons rfl (fun K hK => ?_) AllReadyH.nil))
                  · skip
                    go_simp
                    refine hK.out _ _ (⟨k0, k1, k2⟩) (fun hHeld => ?_)
                    clear hK K
                    try simp only [Act.put, List.setIfInBounds_toArray, List.set_cons_zero, List.set_cons_succ, List.getElem_toArray, List.getElem_cons_succ, List.getElem_cons_zero]
                    refine wpAnyH_take (i := 11) (v := ?v40) rfl (by kernel_rfl) (by kernel_rfl) (by kernel_rfl) (fun _ _ _ h => h) (Or.inl ⟨by rfl, ?hy40⟩) (by assumption) ?rest40
                    case hy40 =>
                      intro w hSw
                      go_simp
                      try with_reducible rfl
                    try simp only [Act.put, List.setIfInBounds_toArray, List.set_cons_zero, List.set_cons_succ, List.getElem_toArray, List.getElem_cons_succ, List.getElem_cons_zero]
                    refine wpAnyH_ready (rs := [13]) (by kernel_rfl) (by simp) ?_
                    refine AllReadyH.cons rfl (fun K hK => ?_) AllReadyH.nil
                    go_simp
                    go_wp2_with fail; refine (WO.mine_bytes ((unhide HM1).same ((Only.refl _ w1).drew)) (by rw [unhide HLL]; omega)).mono ?_; rintro e w3 ⟨y3, rfl, hy3⟩; have o13 : Only (fun _ => False) w1 w3 := ((Only.refl _ _).drew).trans hy3.only (fun _ _ e => e); obtain ⟨k0', k1', k2', kf'⟩ := cells_three (o13.heap (unhide HB1) (fun h => h)); have c3' := ((unhide HL1).same o13).lg.cells.2.2.2.1; have HY3 : Hid (Has w3 y3 (layAll us) ∧ ∀ j, blk y3 = some j → w1.heap.size ≤ j) := ⟨Has.ofOwns hy3.own, owns_fresh (w := w1.drew) hy3.own⟩; have HO13 := hide o13; clear hy3 o13
                    refine hK.out _ _ (⟨k0', k1', k2'⟩) (fun hHeld => ?_)
                    clear hK K
                    try simp only [Act.put, List.setIfInBounds_toArray, List.set_cons_zero, List.set_cons_succ, List.getElem_toArray, List.getElem_cons_succ, List.getElem_cons_zero]
                    refine wpAnyH_ready (rs := [14]) (by kernel_rfl) (by simp) ?_
                    refine AllReadyH.cons rfl (fun K hK => ?_) AllReadyH.nil
                    go_simp
                    go_wp2_with fail; refine (unhide HCO w3 (unhide HO13) y3 (unhide HY3).1 (fun _ j hj => by have := (unhide HY3).2 j hj; have := (unhide HL1).lt; exact ⟨fun e => by have := (unhide HL1).dk.lt j e; omega, by omega⟩)).mono ?_; rintro e w4 ⟨rfl, F4, hw4⟩; have HW4 := hide (((hw4.box (unhide HO13)).box (unhide HO1)).box (unhide HM).only); obtain ⟨k0'', k1'', k2'', kf''⟩ := cells_three ((hw4.box (unhide HO13)).only.heap (unhide HB1) (fun e => by have := (unhide HL).lt; rcases e with e | e; have := (unhide HL).dk.lt _ e; omega; omega)); clear hw4
                    refine hK.out _ _ (⟨k0'', k1'', k2''⟩) (fun hHeld => ?_)
                    clear hK K
                    try simp only [Act.put, List.setIfInBounds_toArray, List.set_cons_zero, List.set_cons_succ, List.getElem_toArray, List.getElem_cons_succ, List.getElem_cons_zero]
                    refine wpAnyH_take (i := 15) (v := ?v41) rfl (by kernel_rfl) (by kernel_rfl) (by kernel_rfl) (fun _ _ _ h => h) (Or.inl ⟨by rfl, ?hy41⟩) (by assumption) ?rest41
                    case hy41 =>
                      intro w hSw
                      go_simp
                      try with_reducible rfl
                    try simp only [Act.put, List.setIfInBounds_toArray, List.set_cons_zero, List.set_cons_succ, List.getElem_toArray, List.getElem_cons_succ, List.getElem_cons_zero]
                    refine wpAnyH_done (by kernel_rfl) ?_ _
                    go_wp2
                    go_ret
                    rw [unhide HRS]
                    exact ⟨rfl, F4, unhide HW4⟩
                  · skip
                    go_simp
                    go_wp2_with fail; refine (WO.mine_bytes ((unhide HM1).same ((Only.refl _ w1).drew)) (by rw [unhide HLL]; omega)).mono ?_; rintro e w3 ⟨y3, rfl, hy3⟩; have o13 : Only (fun _ => False) w1 w3 := ((Only.refl _ _).drew).trans hy3.only (fun _ _ e => e); obtain ⟨k0', k1', k2', kf'⟩ := cells_three (o13.heap (unhide HB1) (fun h => h)); have c3' := ((unhide HL1).same o13).lg.cells.2.2.2.1; have HY3 : Hid (Has w3 y3 (layAll us) ∧ ∀ j, blk y3 = some j → w1.heap.size ≤ j) := ⟨Has.ofOwns hy3.own, owns_fresh (w := w1.drew) hy3.own⟩; have HO13 := hide o13; clear hy3 o13
                    refine hK.out _ _ (⟨k0', k1', k2'⟩) (fun hHeld => ?_)
                    clear hK K
                    try simp only [Act.put, List.setIfInBounds_toArray, List.set_cons_zero, List.set_cons_succ, List.getElem_toArray, List.getElem_cons_succ, List.getElem_cons_zero]
                    refine wpAnyH_ready (rs := [10]) (by kernel_rfl) (by simp) ?_
                    refine AllReadyH.cons rfl (fun K hK => ?_) AllReadyH.nil
                    go_simp
                    refine hK.out _ _ (⟨k0', k1', k2'⟩) (fun hHeld => ?_)
                    clear hK K
                    try simp only [Act.put, List.setIfInBounds_toArray, List.set_cons_zero, List.set_cons_succ, List.getElem_toArray, List.getElem_cons_succ, List.getElem_cons_zero]
                    refine wpAnyH_take (i := 11) (v := ?v42) rfl (by kernel_rfl) (by kernel_rfl) (by kernel_rfl) (fun _ _ _ h => h) (Or.inl ⟨by rfl, ?hy42⟩) (by assumption) ?rest42
                    case hy42 =>
                      intro w hSw
                      go_simp
                      try with_reducible rfl
                    try simp only [Act.put, List.setIfInBounds_toArray, List.set_cons_zero, List.set_cons_succ, List.getElem_toArray, List.getElem_cons_succ, List.getElem_cons_zero]
                    refine wpAnyH_ready (rs := [14]) (by kernel_rfl) (by simp) ?_
                    refine AllReadyH.cons rfl (fun K hK => ?_) AllReadyH.nil
                    go_simp
                    go_wp2_with fail; refine (unhide HCO w3 (unhide HO13) y3 (unhide HY3).1 (fun _ j hj => by have := (unhide HY3).2 j hj; have := (unhide HL1).lt; exact ⟨fun e => by have := (unhide HL1).dk.lt j e; omega, by omega⟩)).mono ?_; rintro e w4 ⟨rfl, F4, hw4⟩; have HW4 := hide (((hw4.box (unhide HO13)).box (unhide HO1)).box (unhide HM).only); obtain ⟨k0'', k1'', k2'', kf''⟩ := cells_three ((hw4.box (unhide HO13)).only.heap (unhide HB1) (fun e => by have := (unhide HL).lt; rcases e with e | e; have := (unhide HL).dk.lt _ e; omega; omega)); clear hw4
                    refine hK.out _ _ (⟨k0'', k1'', k2''⟩) (fun hHeld => ?_)
                    clear hK K
                    try simp only [Act.put, List.setIfInBounds_toArray, List.set_cons_zero, List.set_cons_succ, List.getElem_toArray, List.getElem_cons_succ, List.getElem_cons_zero]
                    refine wpAnyH_take (i := 15) (v := ?v43) rfl (by kernel_rfl) (by kernel_rfl) (by kernel_rfl) (fun _ _ _ h => h) (Or.inl ⟨by rfl, ?hy43⟩) (by assumption) ?rest43
                    case hy43 =>
                      intro w hSw
                      go_simp
                      try with_reducible rfl
                    try simp only [Act.put, List.setIfInBounds_toArray, List.set_cons_zero, List.set_cons_succ, List.getElem_toArray, List.getElem_cons_succ, List.getElem_cons_zero]
                    refine wpAnyH_done (by kernel_rfl) ?_ _
                    go_wp2
                    go_ret
                    rw [unhide HRS]
                    exact ⟨rfl, F4, unhide HW4⟩
                · skip
                  go_simp
                  refine hK.out _ _ (⟨k0, k1, k2⟩) (fun hHeld => ?_)
                  clear hK K
                  try simp only [Act.put, List.setIfInBounds_toArray, List.set_cons_zero, List.set_cons_succ, List.getElem_toArray, List.getElem_cons_succ, List.getElem_cons_zero]
                  refine wpAnyH_ready (rs := [5]) (by kernel_rfl) (by simp) ?_
                  refine AllReadyH.cons rfl (fun K hK => ?_) AllReadyH.nil
                  go_simp
                  go_wp2_with fail; refine (unhide HST _ ((Only.refl _ _).drew)).mono ?_; rintro e w2 ⟨rfl, hw2⟩; subst hw2
                  refine hK.out _ _ (⟨k0, k1, k2⟩) (fun hHeld => ?_)
                  clear hK K
                  try simp only [Act.put, List.setIfInBounds_toArray, List.set_cons_zero, List.set_cons_succ, List.getElem_toArray, List.getElem_cons_succ, List.getElem_cons_zero]
                  refine wpAnyH_take (i := 11) (v := ?v44) rfl (by kernel_rfl) (by kernel_rfl) (by kernel_rfl) (fun _ _ _ h => h) (Or.inl ⟨by rfl, ?hy44⟩) (by assumption) ?rest44
                  case hy44 =>
                    intro w hSw
                    go_simp
                    try with_reducible rfl
                  try simp only [Act.put, List.setIfInBounds_toArray, List.set_cons_zero, List.set_cons_succ, List.getElem_toArray, List.getElem_cons_succ, List.getElem_cons_zero]
                  refine wpAnyH_ready (rs := [13]) (by kernel_rfl) (by simp) ?_
                  refine AllReadyH.cons rfl (fun K hK => ?_) AllReadyH.nil
                  go_simp
                  go_wp2_with fail; refine (WO.mine_bytes ((unhide HM1).same ((Only.refl _ w1).drew)) (by rw [unhide HLL]; omega)).mono ?_; rintro e w3 ⟨y3, rfl, hy3⟩; have o13 : Only (fun _ => False) w1 w3 := ((Only.refl _ _).drew).trans hy3.only (fun _ _ e => e); obtain ⟨k0', k1', k2', kf'⟩ := cells_three (o13.heap (unhide HB1) (fun h => h)); have c3' := ((unhide HL1).same o13).lg.cells.2.2.2.1; have HY3 : Hid (Has w3 y3 (layAll us) ∧ ∀ j, blk y3 = some j → w1.heap.size ≤ j) := ⟨Has.ofOwns hy3.own, owns_fresh (w := w1.drew) hy3.own⟩; have HO13 := hide o13; clear hy3 o13
                  refine hK.out _ _ (⟨k0', k1', k2'⟩) (fun hHeld => ?_)
                  clear hK K
                  try simp only [Act.put, List.setIfInBounds_toArray, List.set_cons_zero, List.set_cons_succ, List.getElem_toArray, List.getElem_cons_succ, List.getElem_cons_zero]
                  refine wpAnyH_ready (rs := [14]) (by kernel_rfl) (by simp) ?_
                  refine AllReadyH.cons rfl (fun K hK => ?_) AllReadyH.nil
                  go_simp
                  go_wp2_with fail; refine (unhide HCO w3 (unhide HO13) y3 (unhide HY3).1 (fun _ j hj => by have := (unhide HY3).2 j hj; have := (unhide HL1).lt; exact ⟨fun e => by have := (unhide HL1).dk.lt j e; omega, by omega⟩)).mono ?_; rintro e w4 ⟨rfl, F4, hw4⟩; have HW4 := hide (((hw4.box (unhide HO13)).box (unhide HO1)).box (unhide HM).only); obtain ⟨k0'', k1'', k2'', kf''⟩ := cells_three ((hw4.box (unhide HO13)).only.heap (unhide HB1) (fun e => by have := (unhide HL).lt; rcases e with e | e; have := (unhide HL).dk.lt _ e; omega; omega)); clear hw4
                  refine hK.out _ _ (⟨k0'', k1'', k2''⟩) (fun hHeld => ?_)
                  clear hK K
                  try simp only [Act.put, List.setIfInBounds_toArray, List.set_cons_zero, List.set_cons_succ, List.getElem_toArray, List.getElem_cons_succ, List.getElem_cons_zero]
                  refine wpAnyH_take (i := 15) (v := ?v45) rfl (by kernel_rfl) (by kernel_rfl) (by kernel_rfl) (fun _ _ _ h => h) (Or.inl ⟨by rfl, ?hy45⟩) (by assumption) ?rest45
                  case hy45 =>
                    intro w hSw
                    go_simp
                    try with_reducible rfl
                  try simp only [Act.put, List.setIfInBounds_toArray, List.set_cons_zero, List.set_cons_succ, List.getElem_toArray, List.getElem_cons_succ, List.getElem_cons_zero]
                  refine wpAnyH_done (by kernel_rfl) ?_ _
                  go_wp2
                  go_ret
                  rw [unhide HRS]
                  exact ⟨rfl, F4, unhide HW4⟩
end

end Wal
end Go.Proofs.YtmcobkcnpnfobaaGreat
