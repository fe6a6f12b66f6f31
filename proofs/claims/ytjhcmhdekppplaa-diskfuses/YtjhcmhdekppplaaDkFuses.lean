/-
  locksmithlaw3's DiskFuses, walked.
-/
import Derived.Test.YtjhcmhdekppplaaDkKnown
import Derived.Test.YtjhcmhdekppplaaHandPick
namespace Go.Proofs.Ytjhcmhdekppplaa
open Go.RowKit
set_option linter.unusedSimpArgs false
set_option linter.unusedVariables false

/-- the disk behind k works, of which the fuse lets n -/
structure FuseInv (n k : Nat) (d : Dk) : Prop where
  len : d.secs.length = 9
  all : ∀ s ∈ d.secs, s.isSome = true
  less : k ≤ n → d.down = false ∧ d.fuse = (n : Int) - k ∧ d.works = k
  more : n < k → d.down = true ∧ d.works = n

theorem FuseInv.fell {n k : Nat} {d : Dk} (h : FuseInv n k d) : d.fell = decide (n ≤ k) := by
  unfold Dk.fell
  by_cases hk : n < k
  · rw [(h.more hk).1]
    simp
    omega
  · obtain ⟨h1, h2, _⟩ := h.less (by omega)
    rw [h1, h2]
    by_cases he : n = k
    · subst he; simp
    · have e1 : ¬ (n : Int) - k = 0 := by omega
      have e2 : ¬ n ≤ k := by omega
      simp [e1, e2]

theorem FuseInv.felled {n k : Nat} {d : Dk} (h : FuseInv n k d) (hk : n ≤ k) : FuseInv n (k + 1) d.felled := by
  refine ⟨h.len, h.all, fun e => by omega, fun _ => ⟨rfl, ?_⟩⟩
  show d.works = n
  rcases Nat.lt_or_ge n k with e | e
  · exact (h.more e).2
  · rw [(h.less e).2.2]; omega

theorem FuseInv.spent {n k : Nat} {d : Dk} (h : FuseInv n k d) (hk : k < n) {s : Secs} {p : Pends} (hl : s.length = 9) (ha : ∀ x ∈ s, x.isSome = true) : FuseInv n (k + 1) { d.spent with secs := s, pend := p } := by
  obtain ⟨h1, h2, h3⟩ := h.less (by omega)
  refine ⟨hl, ha, fun e => ⟨h1, ?_, ?_⟩, fun e => by omega⟩
  · show (if 0 < d.fuse then d.fuse - 1 else d.fuse) = _
    rw [h2]
    have : (0 : Int) < n - k := by omega
    rw [if_pos this]
    omega
  · show d.works + 1 = k + 1
    rw [h3]

theorem putAll_all (s : Secs) (l : Pends) (h : ∀ x ∈ s, x.isSome = true) : ∀ x ∈ s.putAll l, x.isSome = true := by
  induction l generalizing s with
  | nil => exact h
  | cons p r ih =>
    refine ih (s.put p) (fun x hx => ?_)
    rcases List.mem_or_eq_of_mem_set hx with hx | rfl
    · exact h x hx
    · rfl

theorem FuseInv.flush {n k : Nat} {d : Dk} (h : FuseInv n k d) : FuseInv n (k + 1) d.flush ∧ d.flushE = (if k < n then 0 else 9) := by
  have hf := h.fell
  unfold Dk.flush Dk.flushE
  by_cases hk : k < n
  · have e : d.fell = false := by rw [hf]; simp; omega
    rw [e]
    simp only [Bool.false_eq_true, if_false, if_pos hk, and_true]
    exact h.spent hk (by rw [Secs.putAll_length]; exact h.len) (putAll_all _ _ h.all)
  · have e : d.fell = true := by rw [hf]; simp; omega
    rw [e]
    simp only [if_true, if_neg hk, and_true]
    exact h.felled (by omega)

theorem FuseInv.write {n k : Nat} {d : Dk} (h : FuseInv n k d) (j : Int) (h0 : 0 ≤ j) (h9 : j < 9) (bs : List UInt8) (hb : bs.length = 64) : FuseInv n (k + 1) (d.write j bs) ∧ d.writeE j bs = (if k < n then 0 else 9) := by
  have hf := h.fell
  have ht : d.there j = true := by unfold Dk.there; rw [h.len]; simp; omega
  have hc : d.there j = true ∧ bs.length = 64 := ⟨ht, hb⟩
  by_cases hk : k < n
  · have e : d.fell = false := by rw [hf]; simp; omega
    constructor
    · unfold Dk.write
      rw [if_pos hc, e]
      exact h.spent hk h.len h.all
    · unfold Dk.writeE
      rw [if_pos hc, e, if_pos hk]
      rfl
  · have e : d.fell = true := by rw [hf]; simp; omega
    constructor
    · unfold Dk.write
      rw [if_pos hc, e]
      exact h.felled (by omega)
    · unfold Dk.writeE
      rw [if_pos hc, e, if_neg hk]
      rfl

theorem FuseInv.down {n k : Nat} {d : Dk} (h : FuseInv n (k + 1) d) : d.down = decide (n ≤ k) := by
  by_cases hk : n ≤ k
  · rw [(h.more (by omega)).1]; simp [hk]
  · rw [(h.less (by omega)).1]; simp [hk]

theorem FuseInv.works {n k : Nat} {d : Dk} (h : FuseInv n k d) : d.works ≤ k := by
  rcases Nat.lt_or_ge n k with e | e
  · rw [(h.more e).2]; omega
  · rw [(h.less e).2.2]; exact Nat.le_refl _

theorem crashTo_nil (l : Pends) (s : Secs) (k : Nat) : crashTo [] l s k = s := by
  induction k with
  | zero => rfl
  | succ k ih =>
    unfold crashTo
    split
    · exact ih
    · rw [ih]; rfl

theorem look_of_all {d : Dk} (hp : d.pend = []) (h : ∀ s ∈ d.secs, s.isSome = true) (k : Nat) (hk : k < d.secs.length) : (d.look k).isSome = true := by
  have e : d.look k = d.secs[k] := by
    unfold Dk.look
    rw [hp]
    simp [lastOf, hk]
  rw [e]
  exact h _ (List.getElem_mem hk)

/-- the end of it -/
theorem FuseInv.ends {n : Nat} {d : Dk} (h : FuseInv n 30 d) (hn : n < 20) (bs : List UInt8) (hb : bs.length = 64) :
    d.readE 1 = 9 ∧ (d.crash []).readE 1 = 0 ∧ (d.crash []).works = n ∧ (d.crash []).writeE 1 bs = 0 := by
  obtain ⟨h1, h2⟩ := h.more (by omega)
  have hs : (d.crash []).secs = d.secs := crashTo_nil _ _ _
  have ht : d.there 1 = true := by unfold Dk.there; rw [h.len]; simp
  have ht' : (d.crash []).there 1 = true := by unfold Dk.there; rw [hs, h.len]; simp
  refine ⟨?_, ?_, h2, ?_⟩
  · unfold Dk.readE; rw [ht, h1]; rfl
  · have := look_of_all (d := d.crash []) rfl (by rw [hs]; exact h.all) 1 (by rw [hs, h.len]; decide)
    unfold Dk.readE
    rw [ht']
    simp only [if_true]
    rw [show (d.crash []).down = false from rfl]
    simp [this]
  · unfold Dk.writeE
    rw [if_pos ⟨ht', hb⟩]
    rfl

theorem FuseInv.start (n : Nat) : FuseInv n 0 ((Dk.new 9).fused n) := by
  refine ⟨by simp [Dk.fused, Dk.new], fun s hs => ?_, fun _ => ⟨rfl, by show (n : Int) = _; omega, rfl⟩, fun e => by omega⟩
  rw [List.eq_of_mem_replicate (show s ∈ List.replicate 9 _ from hs)]
  rfl

set_option maxRecDepth 100000 in
set_option maxHeartbeats 2000000 in
theorem diskFuses_any (n0 : Int) (lv : Value) (fs : List Int) (w : World) (hl : HasV w lv (fs.map (.int .i64))) :
    Calls Try.prog 6 #[.int .i64 n0, lv] w fun e w' => e = .returned (.bool true) ∧ Only (fun _ => False) w w' := by
  obtain ⟨lo, lc, rfl, hlc, hm⟩ := hl.shape
  rw [List.length_map] at hlc hl ⊢
  have hm' : fs.length ≤ 9223372036854775807 := by unfold maxLen at hm; omega
  have HL := hide hl
  clear hl hm
  go_enter Try.func6, Try.ntmps6
  go_wp2_with fail
  refine (pick_any n0 20 w (by decide) (by decide)).mono ?_
  rintro e w1 ⟨rfl, rfl⟩
  obtain ⟨n, hn⟩ : ∃ n : Nat, n0 % 20 = n := ⟨(n0 % 20).toNat, by have := Int.emod_nonneg n0 (show (20 : Int) ≠ 0 by decide); omega⟩
  have hn20 : n < 20 := by have := Int.emod_lt_of_pos n0 (show (0 : Int) < 20 by decide); omega
  rw [hn]
  clear hn
  go_wp2_with fail
  refine (dks_new 9 (by decide) (by decide) w1 w1 (Only.refl _ _)).mono ?_
  rintro e w2 ⟨B, F1, rfl, h1, _, _⟩
  have H1 := hide h1
  clear h1
  go_wp2_with fail
  refine (known_any w2).mono ?_
  rintro e w3 ⟨rfl, ho3⟩
  have H3 := hide ((unhide H1).same ho3)
  clear ho3 H1
  go_wp2_with fail
  refine (dks_fuse (unhide H3) n (by omega) (by omega)).mono ?_
  rintro e w4 ⟨rfl, F4, h4⟩
  have H4 := hide h4.dk
  clear h4 H3
  go_wp2_with fail
  go_loopw [7] (fun i wr => ∃ (k : Nat) (F : Nat → Prop) (d : Dk), k ≤ 30 ∧ i = .int .i64 k ∧ Dks w1 wr F B d ∧ FuseInv n k d) (fun i _ => 30 - (intOf i).toNat)
  case atStart => exact ⟨0, F4, _, by decide, rfl, unhide H4, FuseInv.start n⟩
  case round =>
    obtain ⟨k, F, d, hk, rfl, hD, hI⟩ := hrel
    by_cases hlt : k < 30
    · have hw := hI.works
      have hlt' : (k : Int) < 30 := by omega
      -- what the call leaves
      have tail : True := trivial
      by_cases hfl : ∃ f, fs[k]? = some f ∧ f.tmod 3 = 0
      · obtain ⟨f, hf1, hf2⟩ := hfl
        have hkl : k < fs.length := (List.getElem?_eq_some_iff.1 hf1).1
        have hLr := (unhide HL).only hD.only (fun _ _ _ h => h)
        obtain ⟨bb, off, rfl, hbad, hc⟩ := hLr.at (by omega)
        clear hbad
        have hck := hc k (by simpa using hkl)
        have hfk : fs[k] = f := by rw [List.getElem?_eq_getElem hkl] at hf1; exact Option.some.inj hf1
        simp only [List.getElem_map, hfk] at hck
        clear hc hfk hLr hf1
        have hkl' : (k : Int) < (fs.length : Int) := by omega
        obtain ⟨hI2, hE⟩ := hI.flush
        have hdn := hI2.down
        have HD := hide hD
        have HI2 := hide hI2
        have HE := hide hE
        have HDN := hide hdn
        clear hD hI hI2 hE hdn
        go_wp2_with fail
        refine (dks_flush (unhide HD) (by omega)).mono ?_
        rintro e w5 ⟨rfl, F5, h5⟩
        rw [unhide HE]
        have H5 := hide h5.dk
        clear h5
        by_cases hkn : k < n
        · have hkn' : (k : Int) < (n : Int) := by omega
          have hnk : ¬ n ≤ k := by omega
          rw [if_pos hkn]
          go_wp2_with fail
          refine (dks_down (unhide H5)).mono ?_
          rintro e w6 ⟨rfl, rfl⟩
          rw [unhide HDN]
          go_wp2_with fail
          go_roundw
          case rel => exact ⟨k + 1, F5, _, by omega, by go_num, unhide H5, unhide HI2⟩
          case measure => simp [intOf]; omega
        · have hkn' : ¬ (k : Int) < (n : Int) := by omega
          have hnk : n ≤ k := by omega
          rw [if_neg hkn]
          go_wp2_with fail
          refine (dks_down (unhide H5)).mono ?_
          rintro e w6 ⟨rfl, rfl⟩
          rw [unhide HDN]
          go_wp2_with fail
          go_roundw
          case rel => exact ⟨k + 1, F5, _, by omega, by go_num, unhide H5, unhide HI2⟩
          case measure => simp [intOf]; omega
      · by_cases hkl : k < fs.length
        · have hLr := (unhide HL).only hD.only (fun _ _ _ h => h)
          obtain ⟨bb, off, rfl, hbad, hc⟩ := hLr.at (by omega)
          clear hbad
          have hck := hc k (by simpa using hkl)
          simp only [List.getElem_map] at hck
          have hf2 : ¬ fs[k].tmod 3 = 0 := fun e => hfl ⟨fs[k], List.getElem?_eq_getElem hkl, e⟩
          generalize fs[k] = f at hck hf2
          clear hc hLr hfl
          have hkl' : (k : Int) < (fs.length : Int) := by omega
          obtain ⟨hI2, hE⟩ := hI.write ((k : Int) % 9) (by omega) (by omega) (S64 k) (S64_length _)
          have hdn := hI2.down
          have HD := hide hD
          have HI2 := hide hI2
          have HE := hide hE
          have HDN := hide hdn
          clear hD hI hI2 hE hdn
          go_wp2_with fail
          refine (sector_any k wr (by omega) (by omega)).mono ?_
          rintro e w5 ⟨v5, rfl, hv5, hf5, ho5⟩
          have HD5 := hide ((unhide HD).same ho5)
          have hx5 := (unhide HD).fresh hf5
          go_wp2_with fail
          refine (dks_write (unhide HD5) (by omega) ((k : Int) % 9) v5 _ hv5 hx5).mono ?_
          rintro e w6 ⟨rfl, F5, h5⟩
          rw [unhide HE]
          have H5 := hide h5.dk
          clear h5 hv5 hx5 hf5 ho5
          by_cases hkn : k < n
          · have hkn' : (k : Int) < (n : Int) := by omega
            have hnk : ¬ n ≤ k := by omega
            rw [if_pos hkn]
            go_wp2_with fail
            refine (dks_down (unhide H5)).mono ?_
            rintro e w7 ⟨rfl, rfl⟩
            rw [unhide HDN]
            go_wp2_with fail
            go_roundw
            case rel => exact ⟨k + 1, F5, _, by omega, by go_num, unhide H5, unhide HI2⟩
            case measure => simp [intOf]; omega
          · have hkn' : ¬ (k : Int) < (n : Int) := by omega
            have hnk : n ≤ k := by omega
            rw [if_neg hkn]
            go_wp2_with fail
            refine (dks_down (unhide H5)).mono ?_
            rintro e w7 ⟨rfl, rfl⟩
            rw [unhide HDN]
            go_wp2_with fail
            go_roundw
            case rel => exact ⟨k + 1, F5, _, by omega, by go_num, unhide H5, unhide HI2⟩
            case measure => simp [intOf]; omega
        · have hkl' : ¬ (k : Int) < (fs.length : Int) := by omega
          clear hfl
          obtain ⟨hI2, hE⟩ := hI.write ((k : Int) % 9) (by omega) (by omega) (S64 k) (S64_length _)
          have hdn := hI2.down
          have HD := hide hD
          have HI2 := hide hI2
          have HE := hide hE
          have HDN := hide hdn
          clear hD hI hI2 hE hdn
          go_wp2_with fail
          refine (sector_any k wr (by omega) (by omega)).mono ?_
          rintro e w5 ⟨v5, rfl, hv5, hf5, ho5⟩
          have HD5 := hide ((unhide HD).same ho5)
          have hx5 := (unhide HD).fresh hf5
          go_wp2_with fail
          refine (dks_write (unhide HD5) (by omega) ((k : Int) % 9) v5 _ hv5 hx5).mono ?_
          rintro e w6 ⟨rfl, F5, h5⟩
          rw [unhide HE]
          have H5 := hide h5.dk
          clear h5 hv5 hx5 hf5 ho5
          by_cases hkn : k < n
          · have hkn' : (k : Int) < (n : Int) := by omega
            have hnk : ¬ n ≤ k := by omega
            rw [if_pos hkn]
            go_wp2_with fail
            refine (dks_down (unhide H5)).mono ?_
            rintro e w7 ⟨rfl, rfl⟩
            rw [unhide HDN]
            go_wp2_with fail
            go_roundw
            case rel => exact ⟨k + 1, F5, _, by omega, by go_num, unhide H5, unhide HI2⟩
            case measure => simp [intOf]; omega
          · have hkn' : ¬ (k : Int) < (n : Int) := by omega
            have hnk : n ≤ k := by omega
            rw [if_neg hkn]
            go_wp2_with fail
            refine (dks_down (unhide H5)).mono ?_
            rintro e w7 ⟨rfl, rfl⟩
            rw [unhide HDN]
            go_wp2_with fail
            go_roundw
            case rel => exact ⟨k + 1, F5, _, by omega, by go_num, unhide H5, unhide HI2⟩
            case measure => simp [intOf]; omega
    · obtain rfl : k = 30 := by omega
      obtain ⟨e1, e2, e3, e4⟩ := hI.ends hn20 (S64 1) (S64_length 1)
      have hw := hI.works
      have HD := hide hD
      have E1 := hide e1
      have E2 := hide e2
      have E3 := hide e3
      have E4 := hide e4
      clear hD hI e1 e2 e3 e4
      go_wp2_with fail
      refine (dks_read (unhide HD) (by omega) 1).mono ?_
      rintro e w5 ⟨v5, rfl, _, ho5⟩
      rw [unhide E1]
      have HD5 := hide ((unhide HD).same ho5)
      clear ho5 HD
      go_wp2_with fail
      refine (dks_crash (unhide HD5) (by omega) _ [] (hasV_nil _) (fun j hj => by cases hj)).mono ?_
      rintro e w6 ⟨rfl, F6, h6⟩
      have HD6 := hide h6.dk
      clear h6 HD5
      go_wp2_with fail
      refine (dks_read (unhide HD6) (by rw [unhide E3]; omega) 1).mono ?_
      rintro e w7 ⟨v7, rfl, _, ho7⟩
      rw [unhide E2]
      have HD7 := hide ((unhide HD6).same ho7)
      clear ho7 HD6
      go_wp2_with fail
      refine (dks_works (unhide HD7)).mono ?_
      rintro e w8 ⟨rfl, rfl⟩
      rw [unhide E3]
      go_wp2_with fail
      refine (sector_any 1 w8 (by decide) (by decide)).mono ?_
      rintro e w9 ⟨v9, rfl, hv9, hf9, ho9⟩
      have HD9 := hide ((unhide HD7).same ho9)
      have hx9 := (unhide HD7).fresh hf9
      go_wp2_with fail
      refine (dks_write (unhide HD9) (by rw [unhide E3]; omega) 1 v9 _ hv9 hx9).mono ?_
      rintro e w10 ⟨rfl, F10, h10⟩
      rw [unhide E4]
      have HD10 := hide h10.dk
      clear h10
      go_wp2_with fail
      go_ret
      exact ⟨rfl, (unhide HD10).only⟩

end Go.Proofs.Ytjhcmhdekppplaa
