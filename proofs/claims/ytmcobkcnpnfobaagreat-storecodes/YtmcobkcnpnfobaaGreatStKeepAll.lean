/-
  store's keep, keepAnew, keepEach, over whatever place.
  store's keepEach.
-/
import Derived.Test.YtmcobkcnpnfobaaGreatStMaps
import Derived.Shelf.SlMaps.Clone
namespace Go.Proofs.YtmcobkcnpnfobaaGreat
open Go.RowKit Go.Maps
set_option linter.unusedSimpArgs false
set_option linter.unusedVariables false

namespace St

set_option maxHeartbeats 1000000 in
set_option maxRecDepth 100000 in
theorem clone_raw (b : Nat) (es : Array MapEntry) (clock : Nat) (w : World) (hb : w.heap[b]? = some (.map es clock)) :
    Calls Tryz.prog 74 #[.map (some b)] w fun e w' => e = .returned (.map (some w.heap.size)) ∧ w' = w.alloc (.map es clock) := by
  have hq := fun w => run_eql_map_nil_sl (P := Tryz.prog) w 89 _ _ (some b) Tryz.underlying89
  go_enter Tryz.func74, Tryz.ntmps74
  go_wp2
  have hf : Tryz.prog.funcs[(82 : Nat)]? = some Tryz.f82 := by kernel_rfl
  rw [run_callFunc_extern hf (by kernel_rfl) (by kernel_rfl) (by kernel_rfl) (e := Extern.MapsClone.clone) (by kernel_rfl), run_maps_clone_sl w 89 hb]
  simp only [Result.andThen]
  rw [Oper.upon_value]
  go_wp2
  rw [run_typeAssert_map_sl _ 89 _ _ _ _ Tryz.underlying89]
  simp only [Result.andThen]
  rw [Oper.upon_value]
  go_wp2
  go_ret
  exact ⟨rfl, rfl⟩

theorem clone_any {V : Nat → Prop} {w : World} {mb n : Nat} {P : Prs} (h : MapAt V w mb n P) :
    Calls Tryz.prog 74 #[.map (some mb)] w fun e w' => e = .returned (.map (some w.heap.size)) ∧ MapAt V w' w.heap.size n P ∧ Only (fun _ => False) w w' := by
  obtain ⟨D, h1, h2⟩ := MapV.own h
  obtain ⟨es, clock, hb, F, hs, hD⟩ := h1
  refine (clone_raw mb es clock w hb).mono ?_
  rintro e w' ⟨rfl, rfl⟩
  have oA := (Only.refl (fun _ => False) w).alloc (.map es clock)
  refine ⟨rfl, ?_, oA⟩
  have hm : MapV (VQ V w) (w.alloc (.map es clock)) w.heap.size n P := ⟨MapV.sorted h, D, ⟨es, clock, (MapKept.heap_alloc w _).1, F, hs, hD⟩, h2⟩
  exact MapAt.turned hm oA (fun _ _ _ e => e)

/-- a unit that is made sure of: the answer, and what is then -/
structure KRes (σ : Type) where
  e : Int
  s : σ
  P : Prs
  u : Nat

section
variable {σ : Type} (ap re : σ → List UInt8 → Int × σ)
def keepAnewS (s : σ) (P : Prs) (u : Nat) (l : List Chg) : KRes σ := match layChanges (allOf (done P l)) with
  | none => ⟨2, s, P, u⟩
  | some b => if (re s b).1 = 0 then ⟨0, (re s b).2, done P l, 1⟩ else ⟨(re s b).1, (re s b).2, P, u⟩
def keepS (s : σ) (P : Prs) (u : Nat) (l : List Chg) : KRes σ := match layChanges l with
  | none => ⟨1, s, P, u⟩
  | some b => if l = [] then ⟨0, s, P, u⟩ else if (ap s b).1 = 0 then ⟨0, (ap s b).2, done P l, u + 1⟩ else if (ap s b).1 = 2 then keepAnewS re (ap s b).2 P u l else ⟨(ap s b).1, (ap s b).2, P, u⟩
/-- one behind the other: how many, the first error, what is then -/
def keepEachS : List (List Chg) → σ → Prs → Nat → Nat × KRes σ
  | [], s, P, u => (0, ⟨0, s, P, u⟩)
  | l :: r, s, P, u => let k := keepS ap re s P u l
    if k.e = 0 then ((keepEachS r k.s k.P k.u).1 + 1, (keepEachS r k.s k.P k.u).2) else (0, k)
end

/-- a place where units are made sure of, behind an interface value; F: its own blocks -/
structure Plc (base : Nat) (T : TypeId) (rv : Value) (fA fR : Nat) {σ : Type} (At : World → (Nat → Prop) → σ → Prop) (ap re : σ → List UInt8 → Int × σ) (ok : Nat → σ → Prop) : Prop where
  mA : ∀ w, Sem.run Tryz.prog (method 269 T rv "Append") w = .ok (fA, rv) w
  mR : ∀ w, Sem.run Tryz.prog (method 269 T rv "Reset") w = .ok (fR, rv) w
  eA : ∀ args w, Sem.run Tryz.prog (callFunc fA args) w = .ok (.enter fA args) w
  eR : ∀ args w, Sem.run Tryz.prog (callFunc fR args) w = .ok (.enter fR args) w
  lt : ∀ w F s, At w F s → ∀ k, F k → base ≤ k ∧ k < w.heap.size
  later : ∀ w w' F s (S : Nat → Prop), At w F s → Only S w w' → (∀ k, k < w.heap.size → S k → base ≤ k ∧ ¬ F k) → At w' F s
  cA : ∀ w F s xv u b, At w F s → HasU (fun j => ¬ F j) w xv [u] → u.length ≤ 100000000 → ok (b + 1) s → Calls Tryz.prog fA #[rv, xv] w fun e w' => e = .returned (.int .i64 (ap s u).1) ∧ ∃ F', At w' F' (ap s u).2 ∧ Only F w w' ∧ (∀ k, F' k → F k ∨ w.heap.size ≤ k)
  cR : ∀ w F s xv u b, At w F s → Has w xv u → (u ≠ [] → ∀ j, blk xv = some j → ¬ F j) → u.length ≤ 100000000 → ok (b + 1) s → Calls Tryz.prog fR #[rv, xv] w fun e w' => e = .returned (.int .i64 (re s u).1) ∧ ∃ F', At w' F' (re s u).2 ∧ Only F w w' ∧ (∀ k, F' k → F k ∨ w.heap.size ≤ k)
  full : ∀ s u, (ap s u).1 = 2 → (ap s u).2 = s
  okA : ∀ s u b, ok (b + 1) s → ok b (ap s u).2
  okR : ∀ s u b, ok (b + 1) s → ok b (re s u).2
  okD : ∀ s b, ok (b + 1) s → ok b s

/-- a state at ⟨sb, so⟩, over its place -/
structure KAt (base : Nat) {σ : Type} (At : World → (Nat → Prop) → σ → Prop) (w : World) (F : Nat → Prop) (sb so mb n : Nat) (s : σ) (P : Prs) (u : Nat) : Prop where
  plc : At w F s
  c0 : w.cell? ⟨sb, so, none⟩ = some (.map (some mb))
  c1 : w.cell? ⟨sb, so + 1, none⟩ = some (.int .i64 u)
  fz : ∀ i, w.frozen? ⟨sb, i, none⟩ = false
  map : MapAt (fun j => ¬ F j ∧ j ≠ sb ∧ j ≠ mb) w mb n P
  fs : ¬ F sb
  fm : ¬ F mb
  ne : mb ≠ sb
  us : base ≤ sb
  um : base ≤ mb

/-- what a call has turned -/
structure KWent (base : Nat) {σ : Type} (At : World → (Nat → Prop) → σ → Prop) (w w' : World) (F : Nat → Prop) (sb so mb n : Nat) (s : σ) (P : Prs) (u : Nat) : Prop where
  now : ∃ F' mb', KAt base At w' F' sb so mb' n s P u ∧ (∀ k, F' k → F k ∨ w.heap.size ≤ k) ∧ (mb' = mb ∨ w.heap.size ≤ mb')
  only : Only (fun k => F k ∨ k = sb ∨ k = mb) w w'
  rest : ∀ i, i < so → w'.cell? ⟨sb, i, none⟩ = w.cell? ⟨sb, i, none⟩

theorem cell_kept {S : Nat → Prop} {a b : World} {q : Nat} (ho : Only S a b) (hq : q < a.heap.size) (hS : ¬ S q) (i : Nat) : b.cell? ⟨q, i, none⟩ = a.cell? ⟨q, i, none⟩ := World.cell?_of_block (ho.block q hq hS)

section
variable {base : Nat} {T : TypeId} {rv : Value} {fA fR : Nat} {σ : Type} {At : World → (Nat → Prop) → σ → Prop} {ap re : σ → List UInt8 → Int × σ} {ok : Nat → σ → Prop}
variable {w w' : World} {F : Nat → Prop} {sb so mb n : Nat} {s : σ} {P : Prs} {u : Nat}

theorem KAt.slt (h : KAt base At w F sb so mb n s P u) : sb < w.heap.size := World.block_lt_of_cell? w _ h.c0
theorem frozen_kept {S : Nat → Prop} {a b : World} {q : Nat} (ho : Only S a b) (hq : q < a.heap.size) (hS : ¬ S q) {i : Nat} (h : a.frozen? ⟨q, i, none⟩ = false) : b.frozen? ⟨q, i, none⟩ = false := by
  have hb := ho.block q hq hS
  unfold World.frozen? at h ⊢
  rw [hb]
  exact h
/-- nothing of it has turned -/
theorem KAt.same (pl : Plc base T rv fA fR At ap re ok) (h : KAt base At w F sb so mb n s P u) (o0 : Only (fun _ => False) w w') : KAt base At w' F sb so mb n s P u :=
  ⟨pl.later _ _ _ _ _ h.plc o0 (fun _ _ e => e.elim), o0.cell h.c0 (fun e => e), o0.cell h.c1 (fun e => e), fun i => frozen_kept o0 h.slt (fun e => e) (h.fz i), h.map.same o0, h.fs, h.fm, h.ne, h.us, h.um⟩
theorem KAt.more (h : KAt base At w F sb so mb n s P u) {m : Nat} (hm : n ≤ m) : KAt base At w F sb so mb m s P u := ⟨h.plc, h.c0, h.c1, h.fz, h.map.more hm, h.fs, h.fm, h.ne, h.us, h.um⟩
theorem KAt.went (h : KAt base At w F sb so mb n s P u) : KWent base At w w F sb so mb n s P u := ⟨⟨F, mb, h, fun _ e => Or.inl e, Or.inl rfl⟩, Only.refl _ _, fun _ _ => rfl⟩
theorem KWent.same (pl : Plc base T rv fA fR At ap re ok) {w1 : World} (h : KWent base At w w1 F sb so mb n s P u) (ho : Only (fun _ => False) w1 w') : KWent base At w w' F sb so mb n s P u := by
  obtain ⟨F', mb', hk, h1, h2⟩ := h.now
  exact ⟨⟨F', mb', hk.same pl ho, h1, h2⟩, h.only.trans ho (fun _ _ e => e.elim), fun i hi => (cell_kept ho hk.slt (fun e => e) i).trans (h.rest i hi)⟩
/-- the place has turned, and nothing else of it -/
theorem KAt.placed {w1 : World} (pl : Plc base T rv fA fR At ap re ok) (h : KAt base At w F sb so mb n s P u) {F' : Nat → Prop} {s' : σ} (ha : At w1 F' s') (ho : Only F w w1) (hf : ∀ k, F' k → F k ∨ w.heap.size ≤ k) : KAt base At w1 F' sb so mb n s' P u := by
  have hs := h.slt
  have hm := h.map.lt
  have hn : ∀ k, k < w.heap.size → ¬ F k → ¬ F' k := fun k hk hx e => by rcases hf k e with e | e; exact hx e; omega
  have hmap := ((h.map.mono (U := fun j => (¬ F' j ∧ j ≠ sb ∧ j ≠ mb) ∧ ¬ F j) (fun k hk hv => ⟨⟨hn k hk hv.1, hv.2⟩, hv.1⟩)).only ho h.fm (fun k _ hv => hv.2)).mono (U := fun j => ¬ F' j ∧ j ≠ sb ∧ j ≠ mb) (fun k _ hv => hv.1)
  exact ⟨ha, ho.cell h.c0 h.fs, ho.cell h.c1 h.fs, fun i => frozen_kept ho hs h.fs (h.fz i), hmap, hn sb hs h.fs, hn mb hm h.fm, h.ne, h.us, h.um⟩

set_option maxHeartbeats 4000000 in
set_option maxRecDepth 100000 in
theorem keepAnew_any (pl : Plc base T rv fA fR At ap re ok) (h : KAt base At w F sb so mb n s P u) (xv : Value) (cs : List Chg) (hx : HasC (fun j => ¬ F j ∧ j ≠ sb ∧ j ≠ mb) w xv cs) (hcl : cs.length ≤ 1000) (hcs : ∀ c ∈ cs, c.key.length ≤ 100 ∧ c.value.length ≤ 65535) (hn : n + cs.length ≤ 900000000) (b : Nat) (hok : ok (b + 1) s) :
    Calls Tryz.prog 63 #[.pointer (some ⟨sb, so, none⟩), .iface T rv, xv] w fun e w' => e = .returned (.int .i64 (keepAnewS re s P u cs).e) ∧ KWent base At w w' F sb so mb (n + cs.length) (keepAnewS re s P u cs).s (keepAnewS re s P u cs).P (keepAnewS re s P u cs).u := by
  have H := hide h
  have HX := hide hx
  have PL := hide pl
  have HCS := hide hcs
  have HOK := hide hok
  obtain ⟨xo, xc, hxv, _⟩ := hx.shape
  subst hxv
  have c0 := h.c0
  have c1 := h.c1
  have cf := h.fz
  have hslt := h.slt
  have hmlt := h.map.lt
  have hmR := pl.mR
  have heR := pl.eR
  have HKS : Hid (keepAnewS re s P u cs = match layChanges (allOf (done P cs)) with
    | none => ⟨2, s, P, u⟩
    | some b => if (re s b).1 = 0 then ⟨0, (re s b).2, done P cs, 1⟩ else ⟨(re s b).1, (re s b).2, P, u⟩) := rfl
  obtain ⟨V, hV⟩ : ∃ V : Nat → Prop, V = fun j => (¬ F j ∧ j ≠ sb ∧ j ≠ mb) ∧ j ≠ w.heap.size := ⟨_, rfl⟩
  have hMV : MapAt V w mb n P := by rw [hV]; exact h.map.mono (fun k hk hv => ⟨hv, by omega⟩)
  have HCL := hide (clone_any hMV)
  clear h hx pl hcs hok hMV
  go_enter Tryz.func63, Tryz.ntmps63
  go_wp2_with fail
  refine (unhide HCL).mono ?_
  rintro e w1 ⟨rfl, hm1, o1⟩
  have hs1 : w.heap.size < w1.heap.size := hm1.lt
  have hx1 : HasC (fun j => j < w.heap.size) w1 (.slice xo cs.length xc) cs := ((unhide HX).mono (R := fun j => j < w.heap.size) (fun k hk _ => hk)).same o1
  have hVn : ∀ k, w1.heap.size ≤ k → V k := fun k hk => by
    rw [hV]
    exact ⟨⟨fun e => by have := ((unhide PL).lt _ _ _ (unhide H).plc k e).2; omega, by omega, by omega⟩, by omega⟩
  have HDO := hide (do_any hm1 _ cs hx1 hVn (by rw [hV]; exact fun e => e.2 rfl) (by show ¬ w.heap.size < w.heap.size; omega) (by omega) (by omega) (fun c hc => by have := unhide HCS c hc; omega))
  have HO1 := hide o1
  clear hm1 o1 hx1 hVn
  go_wp2_with fail
  refine (unhide HDO).mono ?_
  rintro e w2 ⟨rfl, hm2, o2⟩
  have HO2 : Hid (Only (fun _ => False) w w2) := (unhide HO1).trans o2 (fun i hi e => by omega)
  have hs2 := o2.size
  have HAO := hide (allOf_any hm2 (by omega))
  have HM2 := hide hm2
  clear hm2 o2
  go_wp2_with fail
  refine (unhide HAO).mono ?_
  rintro e w3 ⟨lv, rfl, hr3, o3⟩
  have hs3 := o3.size
  obtain ⟨lo, lc, rfl⟩ := hr3.shape
  have hpl : (done P cs).length ≤ 900000000 := by have := MapV.size_le (unhide HM2); omega
  have hc3 : HasC (fun _ => True) w3 _ (allOf (done P cs)) := (hr3.mono (R := fun _ => True) (fun _ _ _ => trivial)).hasC (fun _ _ => trivial)
  have HLA := hide (layChanges_any _ _ w3 hc3 (by simp [allOf]; omega))
  have HO3 : Hid (Only (fun _ => False) w w3) := (unhide HO2).trans o3 (fun _ _ e => e)
  have HM3 := hide ((unhide HM2).same o3)
  clear hr3 o3 hc3
  go_wp2_with fail
  refine (unhide HLA).mono ?_
  rintro e w4 ⟨hla, o4⟩
  have hs4 := o4.size
  have HO4 : Hid (Only (fun _ => False) w w4) := (unhide HO3).trans o4 (fun _ _ e => e)
  have HM4 := hide ((unhide HM3).same o4)
  clear o4
  obtain ⟨q, hq⟩ : ∃ q, layChanges (allOf (done P cs)) = q := ⟨_, rfl⟩
  rw [hq] at hla HKS
  cases q with
  | none =>
    subst hla
    go_wp2
    go_ret
    rw [unhide HKS]
    exact ⟨rfl, (((unhide H).more (by omega)).went).same (unhide PL) (unhide HO4)⟩
  | some bs =>
    obtain ⟨y, rfl, hy⟩ := hla
    have hyh := Has.ofOwns hy.out
    have hyb := owns_blk hy
    obtain ⟨yo, yc, rfl, _⟩ := hyh.shape
    have hbl : bs.length ≤ 100000000 := by
      unfold layChanges at hq
      split at hq
      · rename_i hc
        simp only [Option.some.injEq] at hq
        rw [← hq, layAll, List.length_append, be_length]
        have := lays_len _ hc.2
        omega
      · cases hq
    have hA4 := (unhide PL).later _ _ _ _ _ (unhide H).plc (unhide HO4) (fun _ _ e => e.elim)
    have HRE := hide ((unhide PL).cR w4 F s _ bs b hA4 hyh (fun _ j hj e => by have := hyb j hj; have := ((unhide PL).lt _ _ _ (unhide H).plc j e).2; omega) hbl (unhide HOK))
    have HQ := hide hq
    clear hyh hyb hA4 hq hy
    obtain ⟨d0, d1⟩ : w4.cell? ⟨sb, so, none⟩ = some (.map (some mb)) ∧ w4.cell? ⟨sb, so + 1, none⟩ = some (.int .i64 u) := ⟨(unhide HO4).cell c0 (fun e => e), (unhide HO4).cell c1 (fun e => e)⟩
    obtain ⟨r, hr⟩ : ∃ r, re s bs = r := ⟨_, rfl⟩
    rw [hr] at HRE
    simp only [hr] at HKS
    obtain ⟨re1, s1⟩ := r
    simp only at HRE HKS
    clear hr
    go_wp2_with fail
    refine (unhide HRE).mono ?_
    rintro e w5 ⟨rfl, F5, ha5, o5, hf5⟩
    have HK5 := hide (((unhide H).same (unhide PL) (unhide HO4)).placed (unhide PL) ha5 o5 hf5)
    have HF5 : Hid (∀ k, F5 k → F k ∨ w.heap.size ≤ k) := fun k e => by rcases hf5 k e with e | e; exact Or.inl e; exact Or.inr (by omega)
    have HO5 : Hid (Only F w w5) := ((unhide HO4).mono (fun _ _ e => e.elim)).trans o5 (fun _ _ e => e)
    have hs5 := o5.size
    have hMm : ¬ F w.heap.size := fun e => by have := ((unhide PL).lt _ _ _ (unhide H).plc _ e).2; omega
    have hM5 := ((unhide HM4).mono (U := fun j => V j ∧ j < w4.heap.size) (fun j hj hv => ⟨hv, hj⟩)).only o5 hMm (fun k _ hv => by have := hv.1; rw [hV] at this; exact this.1.1)
    have HF5b : Hid (∀ k, F5 k → F k ∨ w4.heap.size ≤ k) := hf5
    have HMM := hide hMm
    have HM5 := hide hM5
    clear ha5 o5 hf5 d0 d1 hM5 hMm
    obtain ⟨d0, d1, df⟩ : w5.cell? ⟨sb, so, none⟩ = some (.map (some mb)) ∧ w5.cell? ⟨sb, so + 1, none⟩ = some (.int .i64 u) ∧ ∀ i, w5.frozen? ⟨sb, i, none⟩ = false := ⟨(unhide HK5).c0, (unhide HK5).c1, (unhide HK5).fz⟩
    by_cases he : re1 = 0
    · subst he
      rw [if_pos rfl] at HKS
      have d1' : ∀ v, (w5.setCell ⟨sb, so, none⟩ v).cell? ⟨sb, so + 1, none⟩ = some (.int .i64 u) := fun v => by rw [World.cell?_setCell_other]; exact d1; simp
      go_wp2
      go_ret
      rw [unhide HKS]
      have o6 : Only (fun k => k = sb) w5 ((w5.setCell ⟨sb, so, none⟩ (.map (some w.heap.size))).setCell ⟨sb, so + 1, none⟩ (.int .i64 1)) := ((Only.refl _ w5).here so _).here (so + 1) _
      have k5 := unhide HK5
      have hm6 := (unhide HM5).only o6 (fun e => by have := unhide H |>.slt; omega) (fun k _ hv e => by have := hv.1; rw [hV] at this; exact this.1.2.1 e)
      refine ⟨rfl, ⟨⟨F5, w.heap.size, ⟨(unhide PL).later _ _ _ _ _ k5.plc o6 (fun k _ e => by rw [e]; exact ⟨k5.us, k5.fs⟩), ?_, ?_, ?_, hm6.mono (fun k hk hv => ⟨fun e => ?_, ?_, ?_⟩), k5.fs, fun e => ?_, by omega, k5.us, by have := k5.us; omega⟩, unhide HF5, Or.inr (Nat.le_refl _)⟩, ?_, fun i hi => ?_⟩⟩
      · rw [World.cell?_setCell_other]
        · exact World.cell?_setCell_same _ _ _ d0
        · simp
      · exact World.cell?_setCell_same _ _ _ (d1' _)
      · intro i
        simp [df]
      · have := hv.1
        rw [hV] at this
        rcases unhide HF5b k e with e | e
        · exact this.1.1 e
        · have := hv.2; omega
      · have := hv.1
        rw [hV] at this
        exact this.1.2.1
      · have := hv.1
        rw [hV] at this
        exact this.2
      · rcases unhide HF5b _ e with e | e
        · exact unhide HMM e
        · omega
      · exact ((unhide HO5).mono (fun _ _ e => Or.inl e)).trans (o6.mono (T := fun k => F k ∨ k = sb ∨ k = mb) (fun _ _ e => Or.inr (Or.inl e))) (fun _ _ e => e)
      · rw [World.cell?_setCell_other, World.cell?_setCell_other]
        · exact cell_kept (unhide HO5) hslt (unhide H).fs i
        · simp <;> omega
        · simp <;> omega
    · rw [if_neg he] at HKS
      have he' : (re1 == 0) = false := by rw [beq_eq_false_iff_ne]; exact he
      go_wp2
      go_ret
      rw [unhide HKS]
      exact ⟨rfl, ⟨⟨F5, mb, (unhide HK5).more (by omega), unhide HF5, Or.inl rfl⟩, (unhide HO5).mono (fun _ _ e => Or.inl e), fun i _ => cell_kept (unhide HO5) hslt (unhide H).fs i⟩⟩

theorem ok_parts {c : Chg} (h : c.ok = true) : c.key.length ≤ 100 ∧ c.value.length ≤ 65535 := by
  unfold Chg.ok at h
  simp only [Bool.and_eq_true, decide_eq_true_eq] at h
  obtain ⟨⟨_, h2⟩, h3⟩ := h
  split at h3
  · exact ⟨h2, by simpa using h3⟩
  · refine ⟨h2, ?_⟩
    simp at h3
    rw [h3]
    simp
theorem lay_parts {cs : List Chg} {bs : List UInt8} (h : layChanges cs = some bs) : cs.length ≤ 1000 ∧ (∀ c ∈ cs, c.key.length ≤ 100 ∧ c.value.length ≤ 65535) ∧ bs.length ≤ 100000000 := by
  unfold layChanges at h
  split at h
  · rename_i hc
    simp only [Option.some.injEq] at h
    refine ⟨hc.1, fun c hm => ok_parts (List.all_eq_true.1 hc.2 c hm), ?_⟩
    rw [← h, layAll, List.length_append, be_length]
    have := lays_len _ hc.2
    omega
  · cases h

theorem KWent.chain {w1 w2 : World} {n2 : Nat} {F1 : Nat → Prop} {mb1 : Nat} {s2 : σ} {P2 : Prs} {u2 : Nat} (ho : Only (fun k => F k ∨ k = sb ∨ k = mb) w w1) (hf : ∀ k, F1 k → F k ∨ w.heap.size ≤ k) (hm : mb1 = mb ∨ w.heap.size ≤ mb1) (hr : ∀ i, i < so → w1.cell? ⟨sb, i, none⟩ = w.cell? ⟨sb, i, none⟩)
    (h : KWent base At w1 w2 F1 sb so mb1 n2 s2 P2 u2) : KWent base At w w2 F sb so mb n2 s2 P2 u2 := by
  obtain ⟨F', mb', hk, h1, h2⟩ := h.now
  have hs := ho.size
  refine ⟨⟨F', mb', hk, fun k e => ?_, ?_⟩, ho.trans h.only (fun i hi e => ?_), fun i hi => (h.rest i hi).trans (hr i hi)⟩
  · rcases h1 k e with e | e
    · exact hf k e
    · exact Or.inr (by omega)
  · rcases h2 with e | e
    · rw [e]; exact hm
    · exact Or.inr (by omega)
  · rcases e with e | e | e
    · rcases hf i e with e | e
      · exact Or.inl e
      · omega
    · exact Or.inr (Or.inl e)
    · rcases hm with e2 | e2
      · exact Or.inr (Or.inr (by rw [e, e2]))
      · omega

/-- what is handed in stays apart -/
theorem HasC.placed {w1 : World} {xv : Value} {cs : List Chg} (hx : HasC (fun j => ¬ F j ∧ j ≠ sb ∧ j ≠ mb) w xv cs) {F' : Nat → Prop} (ho : Only F w w1) (hf : ∀ k, F' k → F k ∨ w.heap.size ≤ k) : HasC (fun j => ¬ F' j ∧ j ≠ sb ∧ j ≠ mb) w1 xv cs :=
  ((hx.mono (R := fun j => (¬ F' j ∧ j ≠ sb ∧ j ≠ mb) ∧ ¬ F j) (fun k hk hq => ⟨⟨fun e => by rcases hf k e with e | e; exact hq.1 e; omega, hq.2⟩, hq.1⟩)).only ho (fun k _ hq => hq.2)).mono (fun k _ hq => hq.1)

set_option maxHeartbeats 4000000 in
set_option maxRecDepth 100000 in
theorem keep_any (pl : Plc base T rv fA fR At ap re ok) (h : KAt base At w F sb so mb n s P u) (xv : Value) (cs : List Chg) (hx : HasC (fun j => ¬ F j ∧ j ≠ sb ∧ j ≠ mb) w xv cs) (hcl : cs.length ≤ 140737488355328) (hn : n + cs.length ≤ 900000000) (hu : u ≤ 1000000000) (b : Nat) (hok : ok (b + 1) s) :
    Calls Tryz.prog 58 #[.pointer (some ⟨sb, so, none⟩), .iface T rv, xv] w fun e w' => e = .returned (.int .i64 (keepS ap re s P u cs).e) ∧ KWent base At w w' F sb so mb (n + cs.length) (keepS ap re s P u cs).s (keepS ap re s P u cs).P (keepS ap re s P u cs).u := by
  have H := hide h
  have HX := hide hx
  have PL := hide pl
  have HOK := hide hok
  have HLA := hide (layChanges_any _ _ w hx hcl)
  obtain ⟨xo, xc, hxv, _⟩ := hx.shape
  subst hxv
  have hslt := h.slt
  have hmlt := h.map.lt
  have hmA := pl.mA
  have heA := pl.eA
  have HKS : Hid (keepS ap re s P u cs = match layChanges cs with
    | none => ⟨1, s, P, u⟩
    | some b => if cs = [] then ⟨0, s, P, u⟩ else if (ap s b).1 = 0 then ⟨0, (ap s b).2, done P cs, u + 1⟩ else if (ap s b).1 = 2 then keepAnewS re (ap s b).2 P u cs else ⟨(ap s b).1, (ap s b).2, P, u⟩) := rfl
  clear h hx pl hok
  go_enter Tryz.func58, Tryz.ntmps58
  go_wp2_with fail
  refine (unhide HLA).mono ?_
  rintro e w1 ⟨hla, o1⟩
  have hs1 := o1.size
  have HO1 := hide o1
  clear o1
  obtain ⟨q, hq⟩ : ∃ q, layChanges cs = q := ⟨_, rfl⟩
  rw [hq] at hla HKS
  cases q with
  | none =>
    subst hla
    go_wp2
    go_ret
    rw [unhide HKS]
    exact ⟨rfl, (((unhide H).more (by omega)).went).same (unhide PL) (unhide HO1)⟩
  | some bs =>
    obtain ⟨y, rfl, hy⟩ := hla
    obtain ⟨hc1000, hcs, hbl⟩ := lay_parts hq
    simp only at HKS
    have HCS := hide hcs
    clear hcs hq
    by_cases hnil : cs = []
    · rw [if_pos hnil] at HKS
      have hl0 : cs.length = 0 := by rw [hnil]; rfl
      go_wp2
      go_ret
      rw [unhide HKS]
      exact ⟨rfl, (((unhide H).more (by omega)).went).same (unhide PL) (unhide HO1)⟩
    · rw [if_neg hnil] at HKS
      have hl0 : ((cs.length : Int) == 0) = false := by rw [beq_eq_false_iff_ne]; have := List.length_pos_iff.2 hnil; omega
      have hyh := Has.ofOwns hy.out
      have hyb := owns_blk hy
      obtain ⟨yo, yc, rfl, _⟩ := hyh.shape
      have HYH := hide hyh
      have HYB := hide hyb
      clear hy hyh hyb hnil
      go_wp2_with fail
      have hB := heap_alloc_new w1 (.cells #[.slice yo bs.length yc] 24)
      have oA := (Only.refl (fun _ => False) w1).alloc (.cells #[.slice yo bs.length yc] 24)
      generalize (w1.alloc (.cells #[.slice yo bs.length yc] 24)) = w2 at *
      have o2 : Only (fun _ => False) w w2 := (unhide HO1).trans oA (fun _ _ e => e)
      have hFl := (unhide PL).lt _ _ _ (unhide H).plc
      have hU2 : HasU (fun j => ¬ F j) w2 (.slice (some ⟨w1.heap.size, 0, none⟩) 1 1) [bs] := ⟨[.slice yo bs.length yc], hasV_lit (vs := [.slice yo bs.length yc]) hB (by unfold maxLen; simp), ⟨(unhide HYH).only oA (fun _ _ _ e => e), fun _ k hk e => by have := unhide HYB k hk; have := (hFl k e).2; omega, trivial⟩, fun _ k hk e => by simp [blk] at hk; have := (hFl k e).2; omega⟩
      have HAP := hide ((unhide PL).cA w2 F s _ bs b ((unhide PL).later _ _ _ _ _ (unhide H).plc o2 (fun _ _ e => e.elim)) hU2 hbl (unhide HOK))
      have HK2 := hide ((unhide H).same (unhide PL) o2)
      have HX2 := hide ((unhide HX).same o2)
      have HO2 := hide o2
      have HFU := hide (fun h2 => (unhide PL).full s bs h2)
      clear hB oA o2 hU2 hFl HYH HYB
      obtain ⟨r, hr⟩ : ∃ r, ap s bs = r := ⟨_, rfl⟩
      rw [hr] at HAP HFU
      simp only [hr] at HKS
      obtain ⟨re1, s1⟩ := r
      simp only at HAP HKS HFU
      clear hr
      refine (unhide HAP).mono ?_
      rintro e w3 ⟨rfl, F3, ha3, o3, hf3⟩
      have hs3 := o3.size
      have hs2 := (unhide HO2).size
      have HK3 := hide ((unhide HK2).placed (unhide PL) ha3 o3 hf3)
      have HX3 := hide ((unhide HX2).placed o3 hf3)
      have HF3 : Hid (∀ k, F3 k → F k ∨ w.heap.size ≤ k) := fun k e => by rcases hf3 k e with e | e; exact Or.inl e; exact Or.inr (by omega)
      have HO3 : Hid (Only (fun k => F k ∨ k = sb ∨ k = mb) w w3) := ((unhide HO2).mono (fun _ _ e => e.elim)).trans (o3.mono (T := fun k => F k ∨ k = sb ∨ k = mb) (fun _ _ e => Or.inl e)) (fun _ _ e => e)
      have HR3 : Hid (∀ i, i < so → w3.cell? ⟨sb, i, none⟩ = w.cell? ⟨sb, i, none⟩) := fun i _ => (cell_kept o3 (unhide HK2).slt (unhide HK2).fs i).trans (cell_kept (unhide HO2) hslt (fun e => e) i)
      clear ha3 o3 hf3
      by_cases he0 : re1 = 0
      · subst he0
        rw [if_pos rfl] at HKS
        obtain ⟨d0, d1, df⟩ : w3.cell? ⟨sb, so, none⟩ = some (.map (some mb)) ∧ w3.cell? ⟨sb, so + 1, none⟩ = some (.int .i64 u) ∧ ∀ i, w3.frozen? ⟨sb, i, none⟩ = false := ⟨(unhide HK3).c0, (unhide HK3).c1, (unhide HK3).fz⟩
        have k3 := unhide HK3
        have HDO := hide (do_any k3.map _ cs (unhide HX3) (fun k hk => ⟨fun e => by have := ((unhide PL).lt _ _ _ k3.plc k e).2; omega, by omega, by omega⟩) (fun e => e.2.2 rfl) (fun e => e.2.2 rfl) (by omega) hcl (fun c hc => by have := unhide HCS c hc; omega))
        clear k3
        go_wp2_with fail
        refine (unhide HDO).mono ?_
        rintro e w4 ⟨rfl, hm4, o4⟩
        have k3 := unhide HK3
        have e0 := o4.cell d0 (fun e => k3.ne e.symm)
        have e1 := o4.cell d1 (fun e => k3.ne e.symm)
        have ef : ∀ i, w4.frozen? ⟨sb, i, none⟩ = false := fun i => frozen_kept o4 k3.slt (fun e => k3.ne e.symm) (df i)
        have HM4 := hide hm4
        have HO4 := hide o4
        clear hm4 o4 k3 d0 d1 df
        go_wp2
        go_ret
        rw [unhide HKS]
        have k3 := unhide HK3
        have o5 : Only (fun k => k = sb) w4 (w4.setCell ⟨sb, so + 1, none⟩ (.int .i64 (u + 1))) := (Only.refl _ w4).here (so + 1) _
        have p4 := (unhide PL).later _ _ _ _ _ k3.plc (unhide HO4) (fun k _ e => by rw [e]; exact ⟨k3.um, k3.fm⟩)
        have hm5 := (unhide HM4).only o5 k3.ne (fun k _ hv e => hv.2.1 e)
        refine ⟨rfl, ⟨⟨F3, mb, ⟨(unhide PL).later _ _ _ _ _ p4 o5 (fun k _ e => by rw [e]; exact ⟨k3.us, k3.fs⟩), ?_, ?_, ?_, hm5, k3.fs, k3.fm, k3.ne, k3.us, k3.um⟩, unhide HF3, Or.inl rfl⟩, ?_, fun i hi => ?_⟩⟩
        · rw [World.cell?_setCell_other]
          · exact e0
          · simp
        · exact World.cell?_setCell_same _ _ _ e1
        · intro i
          simp [ef]
        · exact ((unhide HO3).trans ((unhide HO4).mono (T := fun k => F k ∨ k = sb ∨ k = mb) (fun _ _ e => Or.inr (Or.inr e))) (fun _ _ e => e)).trans (o5.mono (T := fun k => F k ∨ k = sb ∨ k = mb) (fun _ _ e => Or.inr (Or.inl e))) (fun _ _ e => e)
        · rw [World.cell?_setCell_other]
          · exact (cell_kept (unhide HO4) k3.slt (fun e => k3.ne e.symm) i).trans (unhide HR3 i hi)
          · simp <;> omega
      · rw [if_neg he0] at HKS
        have he0' : (re1 == 0) = false := by rw [beq_eq_false_iff_ne]; exact he0
        by_cases he2 : re1 = 2
        · subst he2
          rw [if_pos rfl] at HKS
          have es1 := unhide HFU rfl
          subst es1
          have HKA := hide (keepAnew_any (unhide PL) (unhide HK3) _ cs (unhide HX3) hc1000 (unhide HCS) hn b (unhide HOK))
          go_wp2_with fail
          refine (unhide HKA).mono ?_
          rintro e w4 ⟨rfl, hw4⟩
          have HW4 := hide (KWent.chain (unhide HO3) (unhide HF3) (Or.inl rfl) (unhide HR3) hw4)
          clear hw4
          go_wp2
          go_ret
          rw [unhide HKS]
          exact ⟨rfl, unhide HW4⟩
        · rw [if_neg he2] at HKS
          have he2' : (re1 == 2) = false := by rw [beq_eq_false_iff_ne]; exact he2
          go_wp2
          go_ret
          rw [unhide HKS]
          exact ⟨rfl, ⟨⟨F3, mb, (unhide HK3).more (by omega), unhide HF3, Or.inl rfl⟩, unhide HO3, unhide HR3⟩⟩
end
end St
end Go.Proofs.YtmcobkcnpnfobaaGreat

namespace Go.Proofs.YtmcobkcnpnfobaaGreat
open Go.RowKit Go.Maps
set_option linter.unusedSimpArgs false
set_option linter.unusedVariables false

namespace St

/-- each of the values holds its changes -/
def EachC (Q : Nat → Prop) (w : World) : List Value → List (List Chg) → Prop
  | [], [] => True
  | v :: vs, l :: ls => HasC Q w v l ∧ EachC Q w vs ls
  | _, _ => False

section
variable {Q R S : Nat → Prop} {w w' : World}
theorem EachC.length : ∀ {vs : List Value} {ls : List (List Chg)}, EachC Q w vs ls → vs.length = ls.length
  | [], [], _ => rfl
  | v :: vs, u :: us, h => by simp [EachC.length h.2]
  | [], _ :: _, h => h.elim
  | _ :: _, [], h => h.elim
theorem EachC.only (ho : Only S w w') (hS : ∀ k, k < w.heap.size → Q k → ¬ S k) : ∀ {vs : List Value} {ls : List (List Chg)}, EachC Q w vs ls → EachC Q w' vs ls
  | [], [], _ => trivial
  | v :: vs, u :: us, h => ⟨h.1.only ho hS, EachC.only ho hS h.2⟩
  | [], _ :: _, h => h.elim
  | _ :: _, [], h => h.elim
theorem EachC.mono (hR : ∀ k, k < w.heap.size → Q k → R k) : ∀ {vs : List Value} {ls : List (List Chg)}, EachC Q w vs ls → EachC R w vs ls
  | [], [], _ => trivial
  | v :: vs, u :: us, h => ⟨h.1.mono hR, EachC.mono hR h.2⟩
  | [], _ :: _, h => h.elim
  | _ :: _, [], h => h.elim
theorem EachC.at : ∀ {vs : List Value} {ls : List (List Chg)}, EachC Q w vs ls → ∀ i (hi : i < ls.length), ∃ v, vs[i]? = some v ∧ HasC Q w v ls[i]
  | [], [], _, i, hi => by simp at hi
  | v :: vs, u :: us, h, 0, _ => ⟨v, rfl, h.1⟩
  | v :: vs, u :: us, h, i + 1, hi => by
    obtain ⟨x, hx, h2⟩ := EachC.at h.2 i (by simpa using hi)
    exact ⟨x, by simpa using hx, by simpa using h2⟩
  | [], _ :: _, h, _, _ => h.elim
  | _ :: _, [], h, _, _ => h.elim
end

/-- the slice value v holds slices of just these changes -/
structure HasCC (Q : Nat → Prop) (w : World) (v : Value) (ls : List (List Chg)) : Prop where
  has : ∃ vs, HasV w v vs ∧ EachC Q w vs ls ∧ (vs ≠ [] → ∀ k, blk v = some k → Q k)
section
variable {Q R S : Nat → Prop} {w w' : World} {v : Value} {ls : List (List Chg)}
theorem HasCC.only (h : HasCC Q w v ls) (ho : Only S w w') (hS : ∀ k, k < w.heap.size → Q k → ¬ S k) : HasCC Q w' v ls := by
  obtain ⟨vs, hv, he, hb⟩ := h.has
  exact ⟨vs, hv.only ho (fun hne k hk => hS k (hv.blk_lt hne k hk) (hb hne k hk)), he.only ho hS, hb⟩
theorem HasCC.mono (h : HasCC Q w v ls) (hR : ∀ k, k < w.heap.size → Q k → R k) : HasCC R w v ls := by
  obtain ⟨vs, hv, he, hb⟩ := h.has
  exact ⟨vs, hv, he.mono hR, fun hne k hk => hR k (hv.blk_lt hne k hk) (hb hne k hk)⟩
theorem HasCC.same (h : HasCC Q w v ls) (ho : Only (fun _ => False) w w') : HasCC Q w' v ls := h.only ho (fun _ _ _ e => e)
theorem HasCC.shape (h : HasCC Q w v ls) : ∃ ao cap, v = .slice ao ls.length cap ∧ ls.length ≤ cap ∧ cap ≤ maxLen := by
  obtain ⟨vs, hv, he, hb⟩ := h.has
  rw [← he.length]
  exact hv.shape
theorem HasCC.at {ao : Option Addr} {len cap : Nat} (h : HasCC Q w (.slice ao len cap) ls) (i : Nat) (hi : i < ls.length) : ∃ bb off x, ao = some ⟨bb, off, none⟩ ∧ w.cell? ⟨bb, off + i, none⟩ = some x ∧ HasC Q w x ls[i] := by
  obtain ⟨vs, hv, he, hb⟩ := h.has
  have hl := he.length
  obtain ⟨ao', cap', hsh, _, _⟩ := hv.shape
  simp only [Value.slice.injEq] at hsh
  obtain ⟨bb, off, rfl, hlen, hc⟩ := hv.at (by omega)
  obtain ⟨x, hx, h2⟩ := he.at i hi
  refine ⟨bb, off, x, rfl, ?_, h2⟩
  have hiv : i < vs.length := by omega
  rw [hc i hiv]
  rw [List.getElem?_eq_getElem hiv] at hx
  exact hx
end

def tot (ls : List (List Chg)) : Nat := (ls.map List.length).sum
theorem tot_take (ls : List (List Chg)) (k : Nat) (h : k < ls.length) : tot (ls.take (k + 1)) = tot (ls.take k) + ls[k].length := by
  unfold tot
  rw [List.take_succ_eq_append_getElem h, List.map_append, List.sum_append]
  simp
theorem tot_le (ls : List (List Chg)) (k : Nat) : tot (ls.take k) ≤ tot ls := by
  have h := List.take_append_drop k ls
  conv => rhs; rw [← h]
  unfold tot
  rw [List.map_append, List.sum_append]
  omega

section
variable {base : Nat} {T : TypeId} {rv : Value} {fA fR : Nat} {σ : Type} {At : World → (Nat → Prop) → σ → Prop} {ap re : σ → List UInt8 → Int × σ} {ok : Nat → σ → Prop}
variable {w w' : World} {F : Nat → Prop} {sb so mb n : Nat} {s : σ} {P : Prs} {u : Nat}

theorem keepS_ok (pl : Plc base T rv fA fR At ap re ok) (l : List Chg) (b : Nat) (h : ok (b + 1) s) : ok b (keepS ap re s P u l).s := by
  unfold keepS
  cases layChanges l with
  | none => exact pl.okD _ _ h
  | some bs =>
    simp only
    split
    · exact pl.okD _ _ h
    · split
      · exact pl.okA _ _ _ h
      · split
        · rename_i h2
          rw [pl.full _ _ h2]
          unfold keepAnewS
          cases layChanges (allOf (done P l)) with
          | none => exact pl.okD _ _ h
          | some cs =>
            simp only
            split
            · exact pl.okR _ _ _ h
            · exact pl.okR _ _ _ h
        · exact pl.okA _ _ _ h
theorem keepS_u (l : List Chg) : (keepS ap re s P u l).u ≤ u + 1 := by
  unfold keepS
  cases layChanges l with
  | none => simp
  | some bs =>
    simp only
    split
    · simp
    · split
      · simp
      · split
        · unfold keepAnewS
          cases layChanges (allOf (done P l)) with
          | none => simp
          | some cs =>
            simp only
            split
            · simp
            · simp
        · simp

theorem keepEachS_step (l : List Chg) (r : List (List Chg)) (h : (keepS ap re s P u l).e = 0) : keepEachS ap re (l :: r) s P u = ((keepEachS ap re r (keepS ap re s P u l).s (keepS ap re s P u l).P (keepS ap re s P u l).u).1 + 1, (keepEachS ap re r (keepS ap re s P u l).s (keepS ap re s P u l).P (keepS ap re s P u l).u).2) := by
  rw [keepEachS]
  exact if_pos h
theorem keepEachS_stop (l : List Chg) (r : List (List Chg)) (h : ¬ (keepS ap re s P u l).e = 0) : keepEachS ap re (l :: r) s P u = (0, keepS ap re s P u l) := by
  rw [keepEachS]
  exact if_neg h

theorem HasCC.placed {w1 : World} {xv : Value} {ls : List (List Chg)} {F' : Nat → Prop} {mb' : Nat} (hx : HasCC (fun j => ¬ F j ∧ j ≠ sb ∧ j ≠ mb) w xv ls) (ho : Only (fun k => F k ∨ k = sb ∨ k = mb) w w1) (hf : ∀ k, F' k → F k ∨ w.heap.size ≤ k) (hm : mb' = mb ∨ w.heap.size ≤ mb') : HasCC (fun j => ¬ F' j ∧ j ≠ sb ∧ j ≠ mb') w1 xv ls :=
  ((hx.mono (R := fun j => (¬ F' j ∧ j ≠ sb ∧ j ≠ mb') ∧ (¬ F j ∧ j ≠ sb ∧ j ≠ mb)) (fun k hk hq => ⟨⟨fun e => by rcases hf k e with e | e; exact hq.1 e; omega, hq.2.1, by rcases hm with e | e; rw [e]; exact hq.2.2; omega⟩, hq⟩)).only ho (fun k _ hq e => by rcases e with e | e | e; exact hq.2.1 e; exact hq.2.2.1 e; exact hq.2.2.2 e)).mono (fun k _ hq => hq.1)

set_option maxHeartbeats 4000000 in
set_option maxRecDepth 100000 in
theorem keepEach_any (pl : Plc base T rv fA fR At ap re ok) (h : KAt base At w F sb so mb n s P u) (xv : Value) (ls : List (List Chg)) (hx : HasCC (fun j => ¬ F j ∧ j ≠ sb ∧ j ≠ mb) w xv ls) (hn : n + tot ls ≤ 900000000) (hN : ls.length + u ≤ 1000000000) (b : Nat) (hok : ok (b + ls.length) s) :
    Calls Tryz.prog 48 #[.pointer (some ⟨sb, so, none⟩), .iface T rv, xv] w fun e w' => e = .returned (.tuple #[.int .i64 (keepEachS ap re ls s P u).1, .int .i64 (keepEachS ap re ls s P u).2.e]) ∧ KWent base At w w' F sb so mb (n + tot ls) (keepEachS ap re ls s P u).2.s (keepEachS ap re ls s P u).2.P (keepEachS ap re ls s P u).2.u := by
  have H := hide h
  have HX := hide hx
  have PL := hide pl
  have HOK := hide hok
  obtain ⟨xo, xc, hxv, _⟩ := hx.shape
  subst hxv
  clear h hx pl hok
  obtain ⟨N, hNe⟩ : ∃ N, N = ls.length := ⟨_, rfl⟩
  have HN := hide hNe
  rw [← hNe] at HX hN HOK ⊢
  clear hNe
  obtain ⟨ke, hke⟩ : ∃ ke, ke = keepEachS ap re ls s P u := ⟨_, rfl⟩
  rw [← hke]
  have HKE := hide hke
  clear hke
  go_enter Tryz.func48, Tryz.ntmps48
  go_wp2
  go_loopw [13] (fun i wr => ∃ (k : Nat) (sk : σ) (Pk : Prs) (uk : Nat) (Fk : Nat → Prop) (mk : Nat), k ≤ N ∧ i = .int .i64 k ∧ KAt base At wr Fk sb so mk (n + tot (ls.take k)) sk Pk uk ∧ (∀ j, Fk j → F j ∨ w.heap.size ≤ j) ∧ (mk = mb ∨ w.heap.size ≤ mk) ∧ Only (fun k => F k ∨ k = sb ∨ k = mb) w wr ∧ (∀ i, i < so → wr.cell? ⟨sb, i, none⟩ = w.cell? ⟨sb, i, none⟩) ∧
      HasCC (fun j => ¬ Fk j ∧ j ≠ sb ∧ j ≠ mk) wr (.slice xo N xc) ls ∧ uk ≤ u + k ∧ ok (b + (N - k)) sk ∧ Hid (ke = (k + (keepEachS ap re (ls.drop k) sk Pk uk).1, (keepEachS ap re (ls.drop k) sk Pk uk).2))) (fun i _ => N - (intOf i).toNat)
  case atStart => exact ⟨0, s, P, u, F, mb, Nat.zero_le _, rfl, unhide H, fun _ e => Or.inl e, Or.inl rfl, Only.refl _ _, fun _ _ => rfl, unhide HX, Nat.le_refl _, unhide HOK, by show _ = _; rw [unhide HKE]; simp⟩
  case round =>
    obtain ⟨k, sk, Pk, uk, Fk, mk, hk, rfl, hK, hfk, hmk, hon, hrs, hxk, huk, hokk, HE⟩ := hrel
    have HRS := hide hrs
    have HK := hide hK
    have HFK := hide hfk
    have HMK := hide hmk
    have HON := hide hon
    have HXK := hide hxk
    have HOKK := hide hokk
    clear hK hfk hmk hon hxk hokk hrs
    by_cases hlt : k < N
    · have hku : k < ls.length := by have := unhide HN; omega
      have hlt' : (k : Int) < N := by omega
      obtain ⟨bb, off, x, hao, hcx, hxc⟩ := (unhide HXK).at k hku
      subst hao
      have htt := tot_take ls k hku
      have htl := tot_le ls (k + 1)
      have hdr : ls.drop k = ls[k] :: ls.drop (k + 1) := List.drop_eq_getElem_cons hku
      have hcll : ls[k].length ≤ 900000000 := by omega
      obtain ⟨l, hl⟩ : ∃ l, l = ls[k] := ⟨_, rfl⟩
      rw [← hl] at hxc htt hdr hcll
      have HKP := hide (keep_any (unhide PL) (unhide HK) x l hxc (by omega) (by omega) (by omega) (b + (N - k - 1)) (by have := unhide HOKK; rw [show b + (N - k - 1) + 1 = b + (N - k) by omega]; exact this))
      obtain ⟨lo, lc, rfl, _⟩ := hxc.shape
      rw [hdr] at HE
      have HTT := hide htt
      have HUB := hide (keepS_u (ap := ap) (re := re) (s := sk) (P := Pk) (u := uk) l)
      have HKO := hide (keepS_ok (P := Pk) (u := uk) (unhide PL) l (b + (N - k - 1)) (by have := unhide HOKK; rw [show b + (N - k - 1) + 1 = b + (N - k) by omega]; exact this))
      clear hl hdr hxc htt
      obtain ⟨r, hr⟩ : ∃ r, r = keepS ap re sk Pk uk l := ⟨_, rfl⟩
      rw [← hr] at HKP HUB HKO
      by_cases he : r.e = 0
      · have HST := hide (keepEachS_step (ap := ap) (re := re) (s := sk) (P := Pk) (u := uk) l (ls.drop (k + 1)) (by rw [← hr]; exact he))
        rw [← hr] at HST
        rw [he] at HKP
        clear hr
        go_wp2_with fail
        refine (unhide HKP).mono ?_
        rintro e w4 ⟨rfl, hw4⟩
        have HW4 := hide hw4
        clear hw4
        go_wp2
        go_roundw
        case rel =>
          obtain ⟨F4, mb4, hk4, hf4, hm4⟩ := (unhide HW4).now
          have hsz := (unhide HON).size
          have hfull : KWent base At w w4 F sb so mb _ r.s r.P r.u := KWent.chain (unhide HON) (unhide HFK) (unhide HMK) (unhide HRS) (unhide HW4)
          refine ⟨k + 1, r.s, r.P, r.u, F4, mb4, by omega, by go_num, ?_, fun j e => ?_, ?_, hfull.only, hfull.rest, (unhide HXK).placed (unhide HW4).only hf4 hm4, by have := unhide HUB; omega, ?_, ?_⟩
          · rw [unhide HTT, ← Nat.add_assoc]
            exact hk4
          · rcases hf4 j e with e | e
            · exact unhide HFK j e
            · exact Or.inr (by omega)
          · rcases hm4 with e | e
            · rw [e]; exact unhide HMK
            · exact Or.inr (by omega)
          · rw [show N - (k + 1) = N - k - 1 by omega]
            exact unhide HKO
          · show _ = _
            rw [unhide HE, unhide HST]
            simp only [Prod.mk.injEq, and_true]
            omega
        case measure => simp [intOf]; omega
      · have he' : (r.e == 0) = false := by rw [beq_eq_false_iff_ne]; exact he
        have HST := hide (keepEachS_stop (ap := ap) (re := re) (s := sk) (P := Pk) (u := uk) l (ls.drop (k + 1)) (by rw [← hr]; exact he))
        rw [← hr] at HST
        rw [unhide HST] at HE
        clear hr
        go_wp2_with fail
        refine (unhide HKP).mono ?_
        rintro e w4 ⟨rfl, hw4⟩
        have HW4 := hide hw4
        clear hw4
        go_wp2
        go_ret2
        rw [unhide HE]
        have hfull : KWent base At w w4 F sb so mb _ r.s r.P r.u := KWent.chain (unhide HON) (unhide HFK) (unhide HMK) (unhide HRS) (unhide HW4)
        refine ⟨by simp, ?_⟩
        obtain ⟨F4, mb4, hk4, hf4, hm4⟩ := hfull.now
        exact ⟨⟨F4, mb4, hk4.more (by have := unhide HTT; omega), hf4, hm4⟩, hfull.only, hfull.rest⟩
    · obtain rfl : N = k := by omega
      have hdr : ls.drop N = [] := List.drop_eq_nil_of_le (by have := unhide HN; omega)
      rw [hdr, keepEachS] at HE
      have htk : ls.take N = ls := List.take_of_length_le (by have := unhide HN; omega)
      rw [htk] at HK
      go_wp2
      go_ret2
      rw [unhide HE]
      exact ⟨rfl, ⟨⟨Fk, mk, unhide HK, unhide HFK, unhide HMK⟩, unhide HON, unhide HRS⟩⟩
end
end St
end Go.Proofs.YtmcobkcnpnfobaaGreat
