/-
  append(b, make([]byte, 16)...): sixteen 0s behind a row that is owned.
-/
import Derived.Test.YtdmcnblnoiahcaaMem
import Derived.Laws.AppendOwn
namespace Go.Proofs.Ytdmcnblnoiahcaa
open Go.RowKit
set_option linter.unusedSimpArgs false
set_option linter.unusedVariables false
namespace Tt

def zs16 : List Value := List.replicate 16 (.int .u8 0)
theorem zs16_len : zs16.length = 16 := rfl
theorem zs16_mem : ∀ u ∈ zs16, u = .int .u8 0 := fun u hu => List.eq_of_mem_replicate hu
theorem zs16_bytes : zs16 = (List.replicate 16 (0 : UInt8)).map bv := rfl
theorem zeroCells16 : Builtin.zeroCells #[Value.int .u8 0] 16 = zs16.toArray := by kernel_rfl

section
variable {P : Program} (w : World)
theorem run_zeros_room (t tx ty e : TypeId) (i : TypeInfo) (ht : P.underlying t = some (.slice e)) (hx : P.underlying tx = some (.int .i64)) (hi : P.info? e = some i) (hz : i.zero = some (.int .u8 0)) (hsize : i.size = 1) (hby : i.bytes = 1)
    (g sLen sCap : Nat) (cur : Array Value) (hg : w.heap[g]? = some (.cells cur e (0, 0))) (hroom : sLen + 16 ≤ sCap) (hfit : sLen + 16 ≤ cur.size) :
    (Builtin.append_ #[t, tx] ty #[.slice (some ⟨g, 0, none⟩) sLen sCap, .int .i64 16]).run P w =
      .ok (.slice (some ⟨g, 0, none⟩) (sLen + 16) sCap) (w.setRow g (cur.toList.take sLen ++ zs16 ++ cur.toList.drop (sLen + 16)).toArray) := by
  have hst := run_storeCells_at P g sLen e zs16 0 cur w hg (by rw [zs16_len]; simpa using hfit) (fun u hu => by rw [zs16_mem u hu]; rfl)
  simp only [Nat.add_zero, zs16_len] at hst
  have hw : IntKind.i64.wrap 16 = 16 := by decide
  have hc := zeroCells16
  simp [Builtin.append_, run_underlying ht, run_underlying hx, sizeOf, typeInfo, zeroValue, hi, hz, hsize, hby, hw, asInt, asIntOf, hroom, Addr.add_lit, Value.cells, hc, hst]
theorem run_zeros_nil (t tx ty e : TypeId) (i : TypeInfo) (ht : P.underlying t = some (.slice e)) (hx : P.underlying tx = some (.int .i64)) (hi : P.info? e = some i) (hz : i.zero = some (.int .u8 0)) (hsize : i.size = 1) (hby : i.bytes = 1) :
    (Builtin.append_ #[t, tx] ty #[.slice none 0 0, .int .i64 16]).run P w =
      .ok (.slice (some ⟨w.heap.size, 0, none⟩) 16 (grownCap w 16 0 e)) (w.drew.alloc (.cells (zs16.toArray ++ Builtin.zeroCells #[.int .u8 0] (grownCap w 16 0 e - 16)) e)) := by
  have hw : IntKind.i64.wrap 16 = 16 := by decide
  have hc := zeroCells16
  have h48' : ¬ (281474976710656 < Builtin.nextslicecap 16 0) := by decide
  simp [Builtin.append_, run_underlying ht, run_underlying hx, sizeOf, typeInfo, zeroValue, hi, hz, hsize, hby, hw, asInt, asIntOf, h48', Question.forced, run_firstCells_none, newRow, grownCap, Value.cells, hc]
  intro h
  exact absurd h (by decide)
theorem run_zeros_grow (t tx ty e : TypeId) (i : TypeInfo) (ht : P.underlying t = some (.slice e)) (hx : P.underlying tx = some (.int .i64)) (hi : P.info? e = some i) (hz : i.zero = some (.int .u8 0)) (hsize : i.size = 1) (hby : i.bytes = 1)
    (b : Addr) (sLen sCap : Nat) (olds : List Value) (hlo : olds.length = sLen) (holds : ∀ j v, olds[j]? = some v → w.cell? (b.add j) = some v) (hg : sCap < sLen + 16) (hs : sLen ≤ 1000000) :
    (Builtin.append_ #[t, tx] ty #[.slice (some b) sLen sCap, .int .i64 16]).run P w =
      .ok (.slice (some ⟨w.heap.size, 0, none⟩) (sLen + 16) (grownCap w (sLen + 16) sCap e))
        (w.drew.alloc (.cells (olds.toArray ++ zs16.toArray ++ Builtin.zeroCells #[.int .u8 0] (grownCap w (sLen + 16) sCap e - (sLen + 16))) e)) := by
  have hw : IntKind.i64.wrap 16 = 16 := by decide
  have hc := zeroCells16
  have hmx : max (16 : Int) 0 = 16 := by decide
  have hn : ¬ (sLen + 16 ≤ sCap) := by omega
  have h63' : ¬ (9223372036854775807 < ((sLen : Int) + 16)) := by omega
  have h48 := growslice_fits (need := sLen + 16) (old := sCap) (bytes := 1) (by omega) (by omega)
  have h48' : ¬ (281474976710656 < Builtin.nextslicecap (sLen + 16) sCap) := by omega
  have hfo := run_firstCells_some (P := P) w.drew 1 sLen b sLen sCap olds (by omega) (by simpa using holds)
  simp [Builtin.append_, run_underlying ht, run_underlying hx, sizeOf, typeInfo, zeroValue, hi, hz, hsize, hby, hw, asInt, asIntOf, hn, h63', h48', Question.forced, hfo, newRow, grownCap, Value.cells, hc, hmx]
  congr 2
  apply Array.ext'
  simp
end

theorem run_zeros {P : Program} (w : World) (base : Nat) (t tx ty e : TypeId) (i : TypeInfo) (ht : P.underlying t = some (.slice e)) (hx : P.underlying tx = some (.int .i64)) (hi : P.info? e = some i) (hz : i.zero = some (.int .u8 0)) (hsize : i.size = 1) (hby : i.bytes = 1)
    (v : Value) (n : Nat) (xs : List Value) (hown : w.ownsRow base e 1 v n xs) (hn : n ≤ 1000000) (hbase : base ≤ w.heap.size) :
    ∃ ao cap w', (Builtin.append_ #[t, tx] ty #[v, .int .i64 16]).run P w = .ok (.slice ao (n + 16) cap) w' ∧ w'.ownsRow base e 1 (.slice ao (n + 16) cap) (n + 16) (xs ++ zs16) ∧ w.grownBy w' v.ownBlock := by
  have hlen : (xs ++ zs16).length = (n + 16) * 1 := by rw [List.length_append, hown.1, zs16_len]; omega
  have grown : ∀ (old : Nat), old < n + 16 → ∀ (row : Option Nat),
      (w.drew.alloc (.cells (xs.toArray ++ zs16.toArray ++ Builtin.zeroCells #[.int .u8 0] (grownCap w (n + 16) old e - (n + 16))) e)).ownsRow base e 1
        (.slice (some ⟨w.heap.size, 0, none⟩) (n + 16) (grownCap w (n + 16) old e)) (n + 16) (xs ++ zs16) ∧
      w.grownBy (w.drew.alloc (.cells (xs.toArray ++ zs16.toArray ++ Builtin.zeroCells #[.int .u8 0] (grownCap w (n + 16) old e - (n + 16))) e)) row := by
    intro old ho row
    have hge := grownCap_ge w (n + 16) old e
    have hcm : grownCap w (n + 16) old e ≤ maxLen := grownCap_le_maxLen w (n + 16) old e (by unfold maxLen; omega)
    refine ⟨⟨hlen, .inr ⟨w.heap.size, _, _, rfl, hbase, heap_alloc_new w.drew _, hge, hcm, ?_, ?_⟩⟩, ⟨rfl, rfl, rfl, by simp, fun k hk _ => by first | exact heap_alloc_old w.drew _ hk | exact Go.heap_alloc_old w.drew _ k hk⟩⟩
    · simp only [Array.size_append, List.size_toArray, size_zeroCells, hown.1, zs16_len]
      show n * 1 + 16 + (grownCap w (n + 16) old e - (n + 16)) * 1 = grownCap w (n + 16) old e * 1
      omega
    · simp only [Array.toList_append, List.append_assoc]
      rw [← List.append_assoc, ← hlen]
      exact List.take_left
  rcases hown.2 with ⟨rfl, rfl⟩ | ⟨g, cap, cur, rfl, hbg, hg, hnc, hcm, hcs, htake⟩
  · have hx0 : xs = [] := List.eq_nil_of_length_eq_zero (by simpa using hown.1)
    subst hx0
    have hr := run_zeros_nil (P := P) w t tx ty e i ht hx hi hz hsize hby
    have hgr := grown 0 (by omega) (Value.ownBlock (.slice none 0 0))
    simp only [Nat.zero_add, List.nil_append, Array.empty_append] at hgr ⊢
    exact ⟨_, _, _, hr, hgr.1, hgr.2⟩
  · by_cases hroom : n + 16 ≤ cap
    · have hfit : n + 16 ≤ cur.size := by rw [hcs]; omega
      have hr := run_zeros_room (P := P) w t tx ty e i ht hx hi hz hsize hby g n cap cur hg hroom hfit
      refine ⟨_, _, _, hr, ⟨hlen, .inr ⟨g, cap, _, rfl, hbg, setRow_heap w g cur _ e _ hg, hroom, hcm, ?_, ?_⟩⟩, ⟨rfl, rfl, rfl, by simp, fun k _ hk => setRow_other w g k _ (fun e => hk (by simp [Value.ownBlock, e]))⟩⟩
      · simp only [List.size_toArray, List.length_append, List.length_take, List.length_drop, Array.length_toList, zs16_len]
        omega
      · have ht2 : cur.toList.take n = xs := by simpa using htake
        rw [ht2, ← hlen]
        exact List.take_left
    · have holds : ∀ j u, xs[j]? = some u → w.cell? ((⟨g, 0, none⟩ : Addr).add j) = some u := hown.cells (g := g) rfl
      have hr := run_zeros_grow (P := P) w t tx ty e i ht hx hi hz hsize hby ⟨g, 0, none⟩ n cap xs (by have := hown.1; omega) holds (by omega) hn
      have hgr := grown cap (by omega) (Value.ownBlock (.slice (some ⟨g, 0, none⟩) n cap))
      exact ⟨_, _, _, hr, hgr.1, hgr.2⟩
theorem step_zeros {P : Program} {w : World} {ops : Array Oper} {o : Oper} {a : Act} {K : Act → World → Prop} {Q : Exit → Act → World → Prop} {E : Prop} (hgd : o.guard = none) (s x : Operand) (t tx : TypeId)
    (ho : o.op = .call { callee := .builtin .append, args := #[s, x], argTypes := #[t, tx] })
    (base : Nat) (e : TypeId) (i : TypeInfo) (ht : P.underlying t = some (.slice e)) (hx : P.underlying tx = some (.int .i64)) (hi : P.info? e = some i) (hz : i.zero = some (.int .u8 0)) (hsize : i.size = 1) (hby : i.bytes = 1)
    (v : Value) (n : Nat) (xs : List Value) (hs : a.eval s = v) (hown : w.ownsRow base e 1 v n xs) (hxv : a.eval x = .int .i64 16) (hn : n ≤ 1000000) (hbase : base ≤ w.heap.size)
    (h : ∀ ao cap w', w'.ownsRow base e 1 (.slice ao (n + 16) cap) (n + 16) (xs ++ zs16) → w.grownBy w' v.ownBlock → K (a.put o.dst (.slice ao (n + 16) cap)) w') :
    if Region.wanted o (yielded ops a.tmps) = true then Oper.wp P o a w K Q else E := by
  have hw : Region.wanted o (yielded ops a.tmps) = true := by simp [Region.wanted, hgd]
  rw [if_pos hw]
  obtain ⟨ao, cap, w', hr, h2, h3⟩ := run_zeros (P := P) w base t tx o.type e i ht hx hi hz hsize hby v n xs hown hn hbase
  unfold Oper.wp execOp
  simp only [ho, resolve, invoke, builtin, Sem.run_bind, Sem.run_pure, Result.andThen_ok, List.map_toArray, List.map_cons, List.map_nil, hs, hxv, hr]
  exact h ao cap w' h2 h3
end Tt
end Go.Proofs.Ytdmcnblnoiahcaa
