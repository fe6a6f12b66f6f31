/-
  octet's Reader: take and number and Raw, by the common words; NewReader, Lack, Left.
-/
import Derived.Test.YtlcnckmbimmpjaaDoorRdUni
import Derived.Test.YtlcnckmbimmpjaaDoorRdNumO
namespace Go.Proofs.YtlcnckmbimmpjaaDoor
open Go.RowKit
set_option linter.unusedSimpArgs false
set_option linter.unusedVariables false
namespace RO

theorem number_any (b : Nat) (v : Value) (lack : Bool) (rest : List UInt8) (n : Nat) (w : World) (h : Rdr 110 w b v lack rest) (h0 : 0 < n) (h8 : n ≤ 8) :
    Calls Tryd.prog 98 #[.pointer (some ⟨b, 0, none⟩), .int .i64 n] w fun e w' => e = .returned (.int .u64 (de (rdBytes lack rest n))) ∧ ∃ v', ReadTo 110 w b v w' v' (rdLack lack rest n) (rdRest lack rest n) := by
  by_cases hn : n ≤ rest.length
  · have hl : lack = false := by
      cases lack with
      | false => rfl
      | true => have := h.inv rfl; subst this; simp at hn; omega
    subst hl
    refine (number_yes b v false rest n w h.toRdAt hn h8).mono ?_
    rintro e w' ⟨rfl, f, v', ht⟩
    refine ⟨?_, v', (ht.to hn).1⟩
    simp [rdBytes, rdOk_yes rfl hn]
  · refine (number_no b v lack rest n w h.toRdAt (by omega)).mono ?_
    rintro e w' ⟨rfl, hl⟩
    have := hl.to (v := v) (lack := lack) (rest := rest) (n := (n : Int)) (Or.inr (Or.inr (by omega)))
    rw [this.2]
    exact ⟨rfl, _, this.1⟩

theorem raw_any (b : Nat) (v : Value) (lack : Bool) (rest : List UInt8) (n : Int) (w : World) (h : Rdr 110 w b v lack rest) (hr : rest.length ≤ 140737488355328) :
    Calls Tryd.prog 99 #[.pointer (some ⟨b, 0, none⟩), .int .i64 n] w fun e w' => ∃ u, e = .returned u ∧ Owns w.heap.size w' u (rdBytes lack rest n) ∧ ∃ v', ReadTo 110 w b v w' v' (rdLack lack rest n) (rdRest lack rest n) := by
  have key : Calls Tryd.prog 105 #[.pointer (some ⟨b, 0, none⟩), .int .i64 n] w fun e w' => ∃ f, e = .returned f ∧ Has w' f (rdBytes lack rest n) ∧ ∃ v', ReadTo 110 w b v w' v' (rdLack lack rest n) (rdRest lack rest n) := by
    by_cases hn : 0 ≤ n ∧ n ≤ rest.length
    · obtain ⟨m, rfl⟩ := Int.eq_ofNat_of_zero_le hn.1
      refine (take_yes b v lack rest m w h.toRdAt (by omega)).mono ?_
      rintro e w' ⟨f, rfl, v', ht⟩
      cases lack with
      | false =>
        have R := ht.to (by omega)
        exact ⟨f, rfl, R.2, v', R.1⟩
      | true =>
        have := h.inv rfl
        subst this
        have hm : m = 0 := by simp at hn; omega
        subst hm
        refine ⟨f, rfl, ?_, v', ⟨⟨?_, fun _ => rfl⟩, ht.only, fun k hk => by rw [← ht.vblk]; exact hk⟩⟩
        · simpa [rdBytes, rdOk_no] using ht.front
        · simpa [rdRest, rdLack, rdOk_no] using ht.now
    · have hn' : n < 0 ∨ (rest.length : Int) < n := by omega
      refine (take_no b v lack rest n w h.toRdAt hn').mono ?_
      rintro e w' ⟨rfl, hl⟩
      have := hl.to (v := v) (lack := lack) (rest := rest) (n := n) (Or.inr hn')
      exact ⟨_, rfl, Or.inl ⟨rfl, this.2⟩, _, this.1⟩
  have hlen : (rdBytes lack rest n).length ≤ rest.length := by
    unfold rdBytes; split
    · have := List.length_take_le' n.toNat rest; omega
    · simp
  have HW := hide key
  clear key
  go_enter Tryd.func99, Tryd.ntmps99
  go_wp2_with fail
  refine (unhide HW).mono ?_
  rintro e w1 ⟨f, rfl, hf, v', hrd⟩
  have HW2 := hide (fresh_any f _ w1 hf (by omega))
  go_wp2_with fail
  refine (unhide HW2).mono ?_
  rintro e w2 ⟨u, rfl, hu⟩
  go_wp2
  go_ret
  refine ⟨u, rfl, ?_, v', ⟨hrd.now.only hu.only (fun h => h) (fun _ _ h => h), hrd.only.trans hu.only (fun _ _ e => e.elim), hrd.vblk⟩⟩
  exact ownsRow_base hu.own hrd.only.size

theorem newReader_any (xv : Value) (us : List UInt8) (w : World) (hx : Has w xv us) (hr : us.length ≤ 140737488355328) :
    Calls Tryd.prog 27 #[xv] w fun e w' => ∃ b, e = .returned (.pointer (some ⟨b, 0, none⟩)) ∧ ∃ v, Rdr 110 w' b v false us ∧ Only (fun _ => False) w w' ∧ w.heap.size ≤ b ∧ ∀ k, blk v = some k → w.heap.size ≤ k ∧ k < w'.heap.size := by
  have HW := hide (fresh_any xv us w hx (by omega))
  obtain ⟨xo, xc, hxv, _⟩ := hx.shape
  subst hxv
  go_enter Tryd.func27, Tryd.ntmps27
  go_wp2_with fail
  refine (unhide HW).mono ?_
  rintro e w1 ⟨u, rfl, hu⟩
  obtain rfl := hu.shape
  go_wp2
  go_ret
  have hsz := hu.only.size
  have hlt : w.heap.size < w1.heap.size := (hu.own.lt _ rfl).2
  refine ⟨_, rfl, _, ⟨⟨heap_alloc_new _ _, (Has.ofOwns hu.own).only ((Only.refl (fun _ => False) w1).alloc _) (fun _ _ _ h => h), ?_⟩, fun h => by cases h⟩, hu.only.alloc _, hsz, ?_⟩
  · intro k hk; simp only [blk, Option.map_some, Option.some.injEq] at hk; omega
  · intro k hk; simp only [blk, Option.map_some, Option.some.injEq] at hk; simp; omega

end RO
end Go.Proofs.YtlcnckmbimmpjaaDoor
