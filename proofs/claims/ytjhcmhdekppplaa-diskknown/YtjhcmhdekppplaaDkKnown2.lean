/-
  locksmithlaw3's DiskKnown, walked.
-/
import Derived.Test.YtjhcmhdekppplaaDkKnown
import Derived.Deep.RegionHeld
import Derived.Deep.DrawnRows
namespace Go.Proofs.Ytjhcmhdekppplaa
open Go.RowKit
set_option linter.unusedSimpArgs false
set_option linter.unusedVariables false
attribute [local go_sem ↓] Go.wp_at_zero Go.wp_at_succ

/-- a value that is read, and is none of the disk's blocks -/
structure Kept (F : Nat → Prop) (w : World) (v : Value) (bs : List UInt8) : Prop where
  has : Has w v bs
  off : ∀ j, blk v = some j → ¬ F j

theorem Kept.same {F : Nat → Prop} {w w' : World} {v : Value} {bs : List UInt8} (h : Kept F w v bs) (ho : Only (fun _ => False) w w') : Kept F w' v bs := ⟨h.has.only ho (fun _ _ _ e => e), h.off⟩
theorem Kept.went {w0 w w' : World} {F F' : Nat → Prop} {b : Nat} {d' : Dk} {v : Value} {bs : List UInt8} (h : Kept F w v bs) (hw : Went w0 w w' F F' b d') (hne : bs ≠ []) : Kept F' w' v bs :=
  ⟨(hw.has h.has hne h.off).1, (hw.has h.has hne h.off).2⟩
theorem Dks.kept {w0 w w' : World} {F : Nat → Prop} {b : Nat} {d : Dk} (h : Dks w0 w F b d) {v : Value} {bs : List UInt8} (ho : Owns w.heap.size w' v bs) : Kept F w' v bs := ⟨Has.ofOwns ho.out, h.fresh (owns_fresh ho)⟩

def ka0 : Dk := Dk.new 8
def ka1 : Dk := ka0.write 8 (S64 1)
def ka2 : Dk := ka1.write 0 ((S64 1).drop 1)
def ka3 : Dk := ka2.write 3 (S64 1)
def ka4 : Dk := ka3.write 3 (S64 2)
def ka5 : Dk := ka4.crash [0]
def ka6 : Dk := ka5.write 3 (S64 4)
def ka7 : Dk := ka6.flush
theorem ka_works : ka0.works = 0 ∧ ka1.works = 0 ∧ ka2.works = 0 ∧ ka3.works = 1 ∧ ka4.works = 2 ∧ ka5.works = 2 ∧ ka6.works = 3 ∧ ka7.works = 4 := by
  refine ⟨?_, ?_, ?_, ?_, ?_, ?_, ?_, ?_⟩ <;> kernel_rfl
theorem ka_facts : ka0.writeE 8 (S64 1) = 1 ∧ ka1.writeE 0 ((S64 1).drop 1) = 1 ∧ ka4.read 3 = S64 2 ∧ ka4.pend.length = 2 ∧ ka5.read 3 = S64 1 ∧ ka6.flushE = 0 ∧ ka7.read 3 = S64 4 ∧ ka7.readE (-1) = 1 ∧ ka7.secs.length = 8 ∧ ka7.pend.length = 0 := by
  refine ⟨?_, ?_, ?_, ?_, ?_, ?_, ?_, ?_, ?_, ?_⟩ <;> kernel_rfl

theorem writes_len {w : World} {base : Nat} {v : Value} {l : Pends} {A : Nat → Prop} {dvs : List (Nat × Value)} (h : Writes w base v l A dvs) : ∃ ao cap, v = .slice ao l.length cap := by
  obtain ⟨ao, cap, e⟩ := ownsRow_shape h.own
  exact ⟨ao, cap, by rw [e, h.len]⟩

set_option maxRecDepth 100000 in
set_option maxHeartbeats 2000000 in
theorem diskKnown_any (w : World) : Calls Try.prog 3 #[] w fun e w' => e = .returned (.bool true) ∧ Only (fun _ => False) w w' := by
  have KW := hide ka_works
  have KF := hide ka_facts
  go_enter Try.func3, Try.ntmps3
  go_wp2_with fail
  refine (dkNew_bad 7 (Or.inl (by decide))).mono ?_
  rintro e w1 ⟨rfl, rfl⟩
  go_wp2_with fail
  refine (dkNew_bad 4097 (Or.inr (by decide))).mono ?_
  rintro e w1 ⟨rfl, rfl⟩
  go_wp2_with fail
  refine (dks_new 8 (by decide) (by decide) w1 w1 (Only.refl _ _)).mono ?_
  rintro e w2 ⟨B, F1, rfl, h1, _, _⟩
  have H1 : Hid (Dks w1 w2 F1 B ka0) := hide h1
  clear h1
  go_wp2_with fail
  refine (known_any w2).mono ?_
  rintro e w3 ⟨rfl, ho3⟩
  have H3 := hide ((unhide H1).same ho3)
  clear ho3 H1
  go_wp2_with fail
  refine (sector_any 1 w3 (by decide) (by decide)).mono ?_
  rintro e w4 ⟨v4, rfl, hv4, hf4, ho4⟩
  have H4 := hide ((unhide H3).same ho4)
  have hx4 := (unhide H3).fresh hf4
  go_wp2_with fail
  refine (dks_write (unhide H4) (by rw [(unhide KW).1]; decide) 8 v4 _ hv4 hx4).mono ?_
  rintro e w5 ⟨rfl, F5, h5⟩
  rw [(unhide KF).1]
  have H5 : Hid (Dks w1 w5 F5 B ka1) := hide h5.dk
  clear h5 hv4 hx4 hf4 ho4 H3 H4
  go_wp2_with fail
  refine (sector_any 1 w5 (by decide) (by decide)).mono ?_
  rintro e w6 ⟨v6, rfl, hv6, hf6, ho6⟩
  have H6 := hide ((unhide H5).same ho6)
  have hx6 := (unhide H5).fresh hf6
  obtain ⟨ao6, cp6, rfl, hlc6, hm6⟩ := hv6.shape
  have hbk := hv6.back (n := 1) (by rw [S64_length]; decide)
  have hblk : ∀ j, blk (.slice (ao6.map (fun x => x.add 1)) ((S64 1).length - 1) (cp6 - 1)) = some j → ¬ F5 j := fun j hj => hx6 j ((blk_add ao6 1 _ _ (S64 1).length cp6).symm.trans hj)
  rw [S64_length] at hlc6 hbk hblk
  have HBK := hide hbk
  have HBL := hide hblk
  have hc1 : ¬ cp6 = 1 := by omega
  have hc2 : (1 : Int) ≤ cp6 := by omega
  rw [S64_length 1]
  clear hv6 hx6 hf6 hbk hblk
  go_wp2_with fail
  refine (dks_write (unhide H6) (by rw [(unhide KW).2.1]; decide) 0 _ ((S64 1).drop 1) (unhide HBK) (unhide HBL)).mono ?_
  rintro e w7 ⟨rfl, F7, h7⟩
  rw [(unhide KF).2.1]
  have H7 : Hid (Dks w1 w7 F7 B ka2) := hide h7.dk
  clear h7 ho6 H6 H5 HBK HBL
  go_wp2_with fail
  refine (sector_any 1 w7 (by decide) (by decide)).mono ?_
  rintro e w8 ⟨v8, rfl, hv8, hf8, ho8⟩
  have H8 := hide ((unhide H7).same ho8)
  have hx8 := (unhide H7).fresh hf8
  go_wp2_with fail
  refine (dks_write (unhide H8) (by rw [(unhide KW).2.2.1]; decide) 3 v8 _ hv8 hx8).mono ?_
  rintro e w9 ⟨rfl, F9, h9⟩
  have H9 : Hid (Dks w1 w9 F9 B ka3) := hide h9.dk
  clear h9 hv8 hx8 hf8 ho8 H7 H8
  go_wp2_with fail
  refine (sector_any 2 w9 (by decide) (by decide)).mono ?_
  rintro e w10 ⟨v10, rfl, hv10, hf10, ho10⟩
  have H10 := hide ((unhide H9).same ho10)
  have hx10 := (unhide H9).fresh hf10
  go_wp2_with fail
  refine (dks_write (unhide H10) (by rw [(unhide KW).2.2.2.1]; decide) 3 v10 _ hv10 hx10).mono ?_
  rintro e w11 ⟨rfl, F11, h11⟩
  have H11 : Hid (Dks w1 w11 F11 B ka4) := hide h11.dk
  clear h11 hv10 hx10 hf10 ho10 H9 H10
  go_wp2_with fail
  refine (dks_read (unhide H11) (by rw [(unhide KW).2.2.2.2.1]; decide) 3).mono ?_
  rintro e w12 ⟨vb, rfl, own12, ho12⟩
  rw [(unhide KF).2.2.1] at own12
  have KB := hide ((unhide H11).kept own12)
  have H12 := hide ((unhide H11).same ho12)
  clear own12 ho12 H11
  go_wp2_with fail
  refine (dks_pending (unhide H12) (by rw [(unhide KW).2.2.2.2.1]; decide)).mono ?_
  rintro e w13 ⟨vp, dvs, rfl, hp13, ho13⟩
  obtain ⟨ap, cpp, rfl⟩ := writes_len hp13
  rw [(unhide KF).2.2.2.1]
  have H13 := hide ((unhide H12).same ho13)
  have KB13 := hide ((unhide KB).same ho13)
  clear hp13 ho13 H12 KB
  go_wp2_with fail
  have oa13 := (Only.refl (fun _ => False) w13).alloc (.cells #[.int .i64 0] 3)
  refine (dks_crash ((unhide H13).same oa13) (by rw [(unhide KW).2.2.2.2.1]; decide) _ [0] (hasV_lit (vs := [.int .i64 0]) (heap_alloc_new _ _) (by simp [maxLen])) ((unhide H13).fresh (fun j hj => by cases hj; exact Nat.le_refl _))).mono ?_
  rintro e w14 ⟨rfl, F14, h14⟩
  have H14 : Hid (Dks w1 w14 F14 B ka5) := hide h14.dk
  have KB14 := hide (((unhide KB13).same oa13).went h14 (S64_ne 2))
  clear h14 oa13 H13 KB13
  go_wp2_with fail
  refine (dks_read (unhide H14) (by rw [(unhide KW).2.2.2.2.2.1]; decide) 3).mono ?_
  rintro e w15 ⟨vc, rfl, own15, ho15⟩
  rw [(unhide KF).2.2.2.2.1] at own15
  have KC := hide ((unhide H14).kept own15)
  have H15 := hide ((unhide H14).same ho15)
  have KB15 := hide ((unhide KB14).same ho15)
  clear own15 ho15 H14 KB14
  go_wp2_with fail
  refine (sector_any 4 w15 (by decide) (by decide)).mono ?_
  rintro e w16 ⟨v16, rfl, hv16, hf16, ho16⟩
  have H16 := hide ((unhide H15).same ho16)
  have hx16 := (unhide H15).fresh hf16
  have KB16 := hide ((unhide KB15).same ho16)
  have KC16 := hide ((unhide KC).same ho16)
  clear H15 KB15 KC
  go_wp2_with fail
  refine (dks_write (unhide H16) (by rw [(unhide KW).2.2.2.2.2.1]; decide) 3 v16 _ hv16 hx16).mono ?_
  rintro e w17 ⟨rfl, F17, h17⟩
  have H17 : Hid (Dks w1 w17 F17 B ka6) := hide h17.dk
  have KB17 := hide ((unhide KB16).went h17 (S64_ne 2))
  have KC17 := hide ((unhide KC16).went h17 (S64_ne 1))
  clear h17 hv16 hx16 hf16 ho16 H16 KB16 KC16
  go_wp2_with fail
  refine (dks_flush (unhide H17) (by rw [(unhide KW).2.2.2.2.2.2.1]; decide)).mono ?_
  rintro e w18 ⟨rfl, F18, h18⟩
  rw [(unhide KF).2.2.2.2.2.1]
  have H18 : Hid (Dks w1 w18 F18 B ka7) := hide h18.dk
  have KB18 := hide ((unhide KB17).went h18 (S64_ne 2))
  have KC18 := hide ((unhide KC17).went h18 (S64_ne 1))
  clear h18 H17 KB17 KC17
  go_wp2_with fail
  refine (dks_read (unhide H18) (by rw [(unhide KW).2.2.2.2.2.2.2]; decide) 3).mono ?_
  rintro e w19 ⟨vx, rfl, own19, ho19⟩
  rw [(unhide KF).2.2.2.2.2.2.1] at own19
  have KX := hide ((unhide H18).kept own19)
  have H19 := hide ((unhide H18).same ho19)
  have KB19 := hide ((unhide KB18).same ho19)
  have KC19 := hide ((unhide KC18).same ho19)
  clear own19 ho19 H18 KB18 KC18
  go_wp2_with fail
  refine (dks_read (unhide H19) (by rw [(unhide KW).2.2.2.2.2.2.2]; decide) (-1)).mono ?_
  rintro e w20 ⟨vy, rfl, _, ho20⟩
  rw [(unhide KF).2.2.2.2.2.2.2.1]
  have H20 := hide ((unhide H19).same ho20)
  have KB := hide (((unhide KB19).same ho20).same ((Only.refl _ w20).drew))
  have KC := hide (((unhide KC19).same ho20).same ((Only.refl _ w20).drew))
  have KX' := hide (((unhide KX).same ho20).same ((Only.refl _ w20).drew))
  have HD := hide ((unhide H20).same ((Only.refl _ w20).drew))
  have cb := str_conv (unhide KB).has
  have cc := str_conv (unhide KC).has
  have cx := str_conv (unhide KX').has
  clear ho20 H19 KB19 KC19 KX H20
  go_wp2_with fail
  go_region_held (fun w' => (convert 28 9 vb).run Try.prog w' = .ok (.string (str (S64 2))) w' ∧ (convert 28 9 vc).run Try.prog w' = .ok (.string (str (S64 1))) w' ∧ (convert 28 9 vx).run Try.prog w' = .ok (.string (str (S64 4))) w') (exact ⟨by assumption, by assumption, by assumption⟩) (first
    | (go_at_call 11; refine (sector_any _ _ (by decide) (by decide)).mono ?_; rintro e w21 ⟨v21, rfl, hv21, hf21, ho21⟩; have HD := hide ((unhide HD).same ho21); have KB := hide ((unhide KB).same ho21); have KC := hide ((unhide KC).same ho21); have KX' := hide ((unhide KX').same ho21); have cs21 := str_conv hv21; have cb := str_conv (unhide KB).has; have cc := str_conv (unhide KC).has; have cx := str_conv (unhide KX').has; clear hv21 hf21 ho21)
    | (go_at_call 16; refine (dks_works (unhide HD)).mono ?_; rintro e w24 ⟨rfl, rfl⟩; rw [(unhide KW).2.2.2.2.2.2.2])
    | (go_at_call 17; refine (dks_sectors (unhide HD)).mono ?_; rintro e w24 ⟨rfl, rfl⟩; rw [(unhide KF).2.2.2.2.2.2.2.2.1])
    | (go_at_call 13; refine (dks_pending (unhide HD) (by rw [(unhide KW).2.2.2.2.2.2.2]; decide)).mono ?_; rintro e w26 ⟨vq, dvs2, rfl, hp26, ho26⟩; obtain ⟨aq, cq, rfl⟩ := writes_len hp26; rw [(unhide KF).2.2.2.2.2.2.2.2.2]; have HD := hide ((unhide HD).same ho26); have KB := hide ((unhide KB).same ho26); have KC := hide ((unhide KC).same ho26); have KX' := hide ((unhide KX').same ho26); have cb := str_conv (unhide KB).has; have cc := str_conv (unhide KC).has; have cx := str_conv (unhide KX').has; clear hp26 ho26))
  all_goals go_wp2_with fail
  all_goals go_ret
  all_goals exact ⟨rfl, (unhide HD).only⟩

end Go.Proofs.Ytjhcmhdekppplaa
