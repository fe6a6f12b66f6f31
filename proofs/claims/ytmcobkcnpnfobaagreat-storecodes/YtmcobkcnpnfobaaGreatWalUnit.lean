/-
  A unit taken off the front: plain, and wal's takeUnit.
-/
import Derived.Test.YtmcobkcnpnfobaaGreatWalLay
import Derived.Test.YtmcobkcnpnfobaaGreatRdLO
namespace Go.Proofs.YtmcobkcnpnfobaaGreat
open Go.RowKit
set_option linter.unusedSimpArgs false
set_option linter.unusedVariables false
namespace Wal

theorem unitOf_length (bs : List UInt8) (h : 8 + de (bs.take 4) ≤ bs.length) : (unitOf bs).length = de (bs.take 4) := by
  unfold unitOf
  simp
  omega

def padOf (u : List UInt8) : Nat := size u * 64 - 8 - u.length

theorem padOf_le (u : List UInt8) : 8 + u.length + padOf u = size u * 64 := by
  have h : 8 + u.length ≤ size u * 64 := secsOf_ge (8 + u.length)
  unfold padOf
  omega

theorem lay_parts (u : List UInt8) : lay u = be 4 u.length ++ (be 4 (Crc.more 0 u) ++ (u ++ List.replicate (padOf u) 0)) := by
  have e : secsOf (front u ++ u).length * 64 - (front u ++ u).length = padOf u := by
    rw [List.length_append, front_length]
    show secsOf (8 + u.length) * 64 - (8 + u.length) = padOf u
    unfold padOf size
    omega
  unfold lay fill
  rw [e]
  simp [front]

theorem cut_four (bs : List UInt8) (n p : Nat) : bs.take (8 + n + p) = bs.take 4 ++ ((bs.drop 4).take 4 ++ ((bs.drop 8).take n ++ (bs.drop (8 + n)).take p)) := by
  have h1 : bs.take (8 + n + p) = bs.take (8 + n) ++ (bs.drop (8 + n)).take p := List.take_add
  have h2 : bs.take (8 + n) = bs.take 8 ++ (bs.drop 8).take n := List.take_add
  have h3 : bs.take 8 = bs.take 4 ++ (bs.drop 4).take 4 := List.take_add (i := 4) (j := 4)
  rw [h1, h2, h3]
  simp

theorem more_de (u bs : List UInt8) (h : bs.length = 4) : be 4 (Crc.more 0 u) = bs ↔ Crc.more 0 u = de bs := by
  have hl := Crc.more_lt 0 u (by decide)
  constructor
  · intro e
    rw [← e, de_be]
    exact (Nat.mod_eq_of_lt (by omega)).symm
  · intro e
    rw [e]
    have := be_de bs
    rwa [h] at this

theorem takeUnit_iff (bs : List UInt8) (h : 8 + de (bs.take 4) ≤ bs.length) :
    lay (unitOf bs) = bs.take (size (unitOf bs) * 64) ↔ (size (unitOf bs) * 64 ≤ bs.length ∧ Crc.more 0 (unitOf bs) = de ((bs.drop 4).take 4) ∧ (bs.drop (8 + (unitOf bs).length)).take (padOf (unitOf bs)) = List.replicate (padOf (unitOf bs)) 0) := by
  have hul := unitOf_length bs h
  have hp := padOf_le (unitOf bs)
  have hb : be 4 (unitOf bs).length = bs.take 4 := by
    rw [hul]
    have := be_de (bs.take 4)
    rwa [show (bs.take 4).length = 4 by simp; omega] at this
  have hu : (bs.drop 8).take (unitOf bs).length = unitOf bs := by rw [hul]; rfl
  have hm := more_de (unitOf bs) ((bs.drop 4).take 4) (by simp; omega)
  constructor
  · intro e
    have hlen := congrArg List.length e
    rw [lay_length, List.length_take] at hlen
    rw [← hp, cut_four, lay_parts, hb, hu] at e
    have e1 := List.append_cancel_left e
    obtain ⟨e2, e3⟩ := List.append_inj e1 (by simp [be_length]; omega)
    exact ⟨by omega, hm.1 e2, (List.append_cancel_left e3).symm⟩
  · rintro ⟨_, h2, h3⟩
    rw [← hp, cut_four, lay_parts, hb, hu, hm.2 h2, h3]

theorem takeUnit_short (bs : List UInt8) (h : ¬ 8 + de (bs.take 4) ≤ bs.length) : takeUnit bs = none := by unfold takeUnit; rw [if_neg (fun e => h e.1)]
theorem takeUnit_bad (bs : List UInt8) (h : 8 + de (bs.take 4) ≤ bs.length) (hn : ¬ (size (unitOf bs) * 64 ≤ bs.length ∧ Crc.more 0 (unitOf bs) = de ((bs.drop 4).take 4) ∧ (bs.drop (8 + (unitOf bs).length)).take (padOf (unitOf bs)) = List.replicate (padOf (unitOf bs)) 0)) : takeUnit bs = none := by
  unfold takeUnit; rw [if_neg (fun e => hn ((takeUnit_iff bs h).1 e.2))]
theorem takeUnit_good (bs : List UInt8) (h : 8 + de (bs.take 4) ≤ bs.length) (hn : size (unitOf bs) * 64 ≤ bs.length ∧ Crc.more 0 (unitOf bs) = de ((bs.drop 4).take 4) ∧ (bs.drop (8 + (unitOf bs).length)).take (padOf (unitOf bs)) = List.replicate (padOf (unitOf bs)) 0) : takeUnit bs = some (unitOf bs, bs.drop (size (unitOf bs) * 64)) := by
  unfold takeUnit; rw [if_pos ⟨h, (takeUnit_iff bs h).2 hn⟩]

/-- what takeUnit answers -/
def TookU (w0 : World) (hi : Nat) (w w' : World) (b : Nat) (e : Ending) : Option (List UInt8 × List UInt8) → Prop
  | none => e = .returned (.tuple #[.slice none 0 0, .bool false]) ∧ Only (fun _ => False) w0 w'
  | some p => ∃ v, e = .returned (.tuple #[v, .bool true]) ∧ Owns w.heap.size w' v p.1 ∧ RO.Mine w0 hi w' b false p.2

set_option maxHeartbeats 400000 in
theorem takeUnit_any {w0 w : World} {hi b : Nat} {bs : List UInt8} (h : RO.Mine w0 hi w b false bs) (h8 : 8 ≤ bs.length) (hr : bs.length ≤ 10000000) :
    Calls Tryz.prog 62 #[.pointer (some ⟨b, 0, none⟩)] w fun e w' => TookU w0 hi w w' b e (takeUnit bs) ∧ Only (fun k => k = b) w w' := by
  have hd4 := de_lt (bs.take 4)
  rw [show (bs.take 4).length = 4 by simp; omega] at hd4
  have HM := hide h
  clear h
  obtain ⟨n, hn⟩ : ∃ n, n = de (bs.take 4) := ⟨_, rfl⟩
  obtain ⟨s, hs⟩ : ∃ s, s = de ((bs.drop 4).take 4) := ⟨_, rfl⟩
  have HU1 := hide (RO.mine_u32 (unhide HM) (by omega) (by omega))
  rw [← hn] at HU1 hd4
  have h4l : 4 ≤ (bs.drop 4).length := by simp; omega
  have hd : (bs.drop 8).length = bs.length - 8 := by simp
  have hsb : s < 4294967296 := by
    have := de_lt ((bs.drop 4).take 4)
    rw [show ((bs.drop 4).take 4).length = 4 by simp; omega] at this
    omega
  by_cases hfit : 8 + n ≤ bs.length
  · have hfit' : 8 + de (bs.take 4) ≤ bs.length := by omega
    have hul := unitOf_length bs hfit'
    have hpl := padOf_le (unitOf bs)
    have hgood := takeUnit_good bs hfit'
    have hbad := takeUnit_bad bs hfit'
    rw [← hs] at hgood hbad
    have hue : (bs.drop 8).take n = unitOf bs := by rw [hn]; rfl
    rw [← hn] at hul
    obtain ⟨u, hu⟩ : ∃ u, u = unitOf bs := ⟨_, rfl⟩
    rw [← hu] at hul hpl hgood hbad hue
    have HN := hide hn
    have HS := hide hs
    have HU := hide hu
    have HUE := hide hue
    have HUL := hide hul
    rw [hul] at hgood hbad
    have HG := hide hgood
    have HBD := hide hbad
    have hun : u.length ≤ 10000000 := by omega
    have hsz : size u * 64 ≤ 20000000 := by have := secsOf_lt (8 + u.length); unfold size; omega
    have hcast : (size u : Int) * 64 - 8 - (u.length : Int) = (padOf u : Int) := by omega
    have HPL := hide hpl
    clear hn hs hu hue hgood hbad hul hpl
    go_enter Tryz.func62, Tryz.ntmps62
    go_wp2_with fail
    refine (unhide HU1).mono ?_
    rintro e w1 ⟨rfl, m1, o1⟩
    go_wp2_with fail
    refine (RO.mine_u32 m1 h4l (by simp; omega)).mono ?_
    rintro e w2 ⟨rfl, m2, o2⟩
    have ow2 := o1.trans o2 (fun _ _ e => e)
    rw [show (bs.drop 4).drop 4 = bs.drop 8 from by simp] at m2
    rw [← unhide HS]
    clear m1
    go_wp2_with fail
    refine (RO.mine_raw m2 n (by omega)).mono ?_
    rintro e w3 ⟨x, rfl, hx, m3, o3⟩
    obtain ⟨e1, e2, e3⟩ := RO.rd_yes (bs.drop 8) n (by omega)
    rw [e1, unhide HUE] at hx
    rw [e2, e3, List.drop_drop] at m3
    have ow3 := ow2.trans o3 (fun _ _ e => e)
    clear e1 e2 e3 o3
    have hb2 := m2.lt
    have h02 := ow2.size
    have HX := hide hx
    have hh := Has.ofOwns hx.out
    clear hx m2
    obtain ⟨xo, xc, rfl, _⟩ := hh.shape
    have HSZ := hide (size_any _ u w3 hh (by omega))
    go_wp2_with fail
    refine (unhide HSZ).mono ?_
    rintro e w4 ⟨rfl, rfl⟩
    go_wp2_with fail
    refine (RO.mine_raw m3 (padOf u) (by simp; omega)).mono ?_
    rintro e w5 ⟨y, rfl, hy, m5, o5⟩
    have OW5 := hide (ow3.trans o5 (fun _ _ e => e))
    have hx5 : Owns w.heap.size w5 (.slice xo u.length xc) u := ownsRow_base (o5.owns (unhide HX).out (fun k hk e => by have := ((unhide HX).out.lt k hk).1; omega)) (by omega)
    have hh5 := Has.ofOwns hx5.out
    have HX5 := hide hx5
    have HU := hide (Crc.sum_any _ u w5 hh5)
    have hsl := Crc.more_lt 0 u (by decide)
    clear hx5 hh hh5 HSZ m3 HX
    by_cases hpad : size u * 64 ≤ bs.length
    · obtain ⟨e1, e2, e3⟩ := RO.rd_yes (bs.drop (8 + n)) (padOf u) (by have := unhide HUL; have := unhide HPL; simp; omega)
      rw [e1] at hy
      rw [e2, e3, List.drop_drop, show 8 + n + padOf u = size u * 64 from by have := unhide HUL; have := unhide HPL; omega] at m5
      clear e1 e2 e3
      obtain ⟨z, hzl⟩ : ∃ z, z = (bs.drop (8 + n)).take (padOf u) := ⟨_, rfl⟩
      rw [← hzl] at hy
      have hzz : allZero z = decide (z = List.replicate (padOf u) 0) := by
        unfold allZero
        rw [show z.length = padOf u from by rw [hzl]; have := unhide HUL; have := unhide HPL; simp; omega]
      have hgood := unhide HG
      have hbad := unhide HBD
      rw [← hzl] at hgood hbad
      have HZ := hide (isZero_any y z w5 (Has.ofOwns hy.out))
      clear hzl
      by_cases hsum : Crc.more 0 u = s
      · by_cases hzero : z = List.replicate (padOf u) 0
        · have hT := hide (hgood ⟨hpad, hsum, hzero⟩)
          have hz1 : allZero z = true := by rw [hzz]; exact decide_eq_true hzero
          have hie : (Crc.more 0 u : Int) = (s : Int) := by rw [hsum]
          rw [hz1] at HZ
          clear hgood hbad hzz hzero hz1 hsum
          go_wp2_with fail
          refine (RO.mine_lack m5).mono ?_
          rintro e w6 ⟨rfl, rfl⟩
          go_wp2_with fail
          refine (unhide HU).mono ?_
          rintro e w6 ⟨rfl, rfl⟩
          go_wp2_with fail
          refine (unhide HZ).mono ?_
          rintro e w6 ⟨rfl, rfl⟩
          go_wp2
          go_ret2
          rw [unhide hT]
          exact ⟨⟨_, rfl, unhide HX5, m5⟩, unhide OW5⟩
        · have hT := hide (hbad (fun e => hzero e.2.2))
          have hz1 : allZero z = false := by rw [hzz]; exact decide_eq_false hzero
          have hie : (Crc.more 0 u : Int) = (s : Int) := by rw [hsum]
          rw [hz1] at HZ
          clear hgood hbad hzz hzero hz1 hsum
          go_wp2_with fail
          refine (RO.mine_lack m5).mono ?_
          rintro e w6 ⟨rfl, rfl⟩
          go_wp2_with fail
          refine (unhide HU).mono ?_
          rintro e w6 ⟨rfl, rfl⟩
          go_wp2_with fail
          refine (unhide HZ).mono ?_
          rintro e w6 ⟨rfl, rfl⟩
          go_wp2
          go_ret2
          rw [unhide hT]
          exact ⟨⟨rfl, m5.only⟩, unhide OW5⟩
      · have hT := hide (hbad (fun e => hsum e.2.1))
        have hie : ¬ (Crc.more 0 u : Int) = (s : Int) := by omega
        clear hgood hbad hzz hsum
        go_wp2_with fail
        refine (RO.mine_lack m5).mono ?_
        rintro e w6 ⟨rfl, rfl⟩
        go_wp2_with fail
        refine (unhide HU).mono ?_
        rintro e w6 ⟨rfl, rfl⟩
        go_wp2
        go_ret2
        rw [unhide hT]
        exact ⟨⟨rfl, m5.only⟩, unhide OW5⟩
    · obtain ⟨e1, e2, e3⟩ := RO.rd_no (bs.drop (8 + n)) false (padOf u) (Or.inr (Or.inr (by have := unhide HUL; have := unhide HPL; simp; omega)))
      rw [e2, e3] at m5
      have hT := hide (unhide HBD (fun e => hpad e.1))
      clear e1 e2 e3 hpad hy
      go_wp2_with fail
      refine (RO.mine_lack m5).mono ?_
      rintro e w6 ⟨rfl, rfl⟩
      go_wp2
      go_ret2
      rw [unhide hT]
      exact ⟨⟨rfl, m5.only⟩, unhide OW5⟩
  · have hT := hide (takeUnit_short bs (by omega))
    have HS := hide hs
    have h56 : ¬ (8 : Int) + n ≤ bs.length := by omega
    clear hn hs
    go_enter Tryz.func62, Tryz.ntmps62
    go_wp2_with fail
    refine (unhide HU1).mono ?_
    rintro e w1 ⟨rfl, m1, o1⟩
    go_wp2_with fail
    refine (RO.mine_u32 m1 h4l (by simp; omega)).mono ?_
    rintro e w2 ⟨rfl, m2, o2⟩
    have ow2 := o1.trans o2 (fun _ _ e => e)
    rw [show (bs.drop 4).drop 4 = bs.drop 8 from by simp] at m2
    rw [← unhide HS]
    clear m1
    go_wp2_with fail
    refine (RO.mine_raw m2 n (by omega)).mono ?_
    rintro e w3 ⟨x, rfl, hx, m3, o3⟩
    obtain ⟨e1, e2, e3⟩ := RO.rd_no (bs.drop 8) false n (Or.inr (Or.inr (by omega)))
    rw [e1] at hx
    rw [e2, e3] at m3
    have ow3 := ow2.trans o3 (fun _ _ e => e)
    clear e1 e2 e3 o3
    have hh := Has.ofOwns hx.out
    obtain ⟨xo, xc, rfl, _⟩ := hh.shape
    have HSZ := hide (size_any _ [] w3 hh (by simp))
    rw [show size [] = 1 from rfl] at HSZ
    go_wp2_with fail
    refine (unhide HSZ).mono ?_
    rintro e w4 ⟨rfl, rfl⟩
    go_wp2_with fail
    refine (RO.mine_raw m3 56 (by simp)).mono ?_
    rintro e w5 ⟨y, rfl, hy, m5, o5⟩
    obtain ⟨e1, e2, e3⟩ := RO.rd_no [] true 56 (Or.inl rfl)
    rw [e2, e3] at m5
    have OW5 := hide (ow3.trans o5 (fun _ _ e => e))
    clear e1 e2 e3 hx hy
    go_wp2_with fail
    refine (RO.mine_lack m5).mono ?_
    rintro e w6 ⟨rfl, rfl⟩
    go_wp2
    go_ret2
    rw [unhide hT]
    exact ⟨⟨rfl, m5.only⟩, unhide OW5⟩

end Wal
end Go.Proofs.YtmcobkcnpnfobaaGreat
