/-
  The reference's Write.
-/
import Derived.Test.YtjhcmhdekppplaaRkRead
import Derived.Test.YtjhcmhdekppplaaDkPend
import Derived.Test.YtjhcmhdekppplaaDkNew
namespace Go.Proofs.Ytjhcmhdekppplaa
open Go.RowKit
set_option linter.unusedSimpArgs false
set_option linter.unusedVariables false

/-- append(v, xv...) of a row that is owned, onto one that is owned -/
theorem run_append_row {P : Program} (w : World) (base base' : Nat) (t ty e : TypeId) (i : TypeInfo) (z : Value) (size bytes : Nat) (ht : P.underlying t = some (.slice e)) (hi : P.info? e = some i) (hz : i.zero = some z)
    (hsize : i.size = size) (hby : i.bytes = bytes) (hzs : z.cells.size = size) (hsz : 0 < size) (v : Value) (n : Nat) (xs : List Value) (hv : w.ownsRow base e size v n xs)
    (xv : Value) (m : Nat) (ys : List Value) (hown : w.ownsRow base' e size xv m ys) (h1 : ∀ u ∈ ys, u.oneCell' = true) (h63 : n + m ≤ maxLen) (hbytes : (n + m) * bytes ≤ 140737488355328) (hbase : base ≤ w.heap.size) :
    ∃ v' w', (Builtin.append_ #[t, t] ty #[v, xv]).run P w = .ok v' w' ∧ w'.ownsRow base e size v' (n + m) (xs ++ ys) ∧ w.grownBy w' v.ownBlock ∧ (v'.ownBlock = v.ownBlock ∨ v'.ownBlock = some w.heap.size) := by
  rcases hown.2 with ⟨rfl, rfl⟩ | ⟨g, cap, cur, rfl, _⟩
  · have hx : ys = [] := List.eq_nil_of_length_eq_zero (by have := hown.1; omega)
    subst hx
    refine ⟨v, w, run_append_owned_none (P := P) w base t ty e i size ht hi _ n xs hv, ?_, ⟨rfl, rfl, rfl, Nat.le_refl _, fun _ _ _ => rfl⟩, Or.inl rfl⟩
    rw [Nat.add_zero, List.append_nil]
    exact hv
  · obtain ⟨v', w', hr, h2, h3, _, h5⟩ := run_append_own_at (P := P) w base t ty e i z size bytes ht hi hz hsize hby hzs hsz v n xs hv ⟨g, 0, none⟩ m cap ys hown.1 (fun j u hu => hown.cells rfl j u hu) h1 h63 hbytes hbase
    exact ⟨v', w', hr, h2, h3, h5⟩

theorem wpList_append_row {P : Program} {w : World} {ops : Array Oper} {rest : List Oper} {o : Oper} {a : Act} {Q : Exit → Act → World → Prop} (hgd : o.guard = none) (s x : Operand) (t : TypeId)
    (ho : o.op = .call { callee := .builtin .append, args := #[s, x], argTypes := #[t, t] })
    (base base' : Nat) (e : TypeId) (i : TypeInfo) (z : Value) (size bytes : Nat) (ht : P.underlying t = some (.slice e)) (hi : P.info? e = some i) (hz : i.zero = some z)
    (hsize : i.size = size) (hby : i.bytes = bytes) (hzs : z.cells.size = size) (hsz : 0 < size) (v : Value) (n : Nat) (xs : List Value) (hs : a.eval s = v) (hv : w.ownsRow base e size v n xs)
    (xv : Value) (m : Nat) (ys : List Value) (hx : a.eval x = xv) (hown : w.ownsRow base' e size xv m ys) (h1 : ∀ u ∈ ys, u.oneCell' = true) (h63 : n + m ≤ maxLen) (hbytes : (n + m) * bytes ≤ 140737488355328) (hbase : base ≤ w.heap.size)
    (h : ∀ v' w', w'.ownsRow base e size v' (n + m) (xs ++ ys) → w.grownBy w' v.ownBlock → (v'.ownBlock = v.ownBlock ∨ v'.ownBlock = some w.heap.size) → wpList P ops Q rest (a.put o.dst v') w') : wpList P ops Q (o :: rest) a w :=
  wpList_plain hgd fun K hK => by
    obtain ⟨v', w', hr, h2, h3, h4⟩ := run_append_row (P := P) w base base' t o.type e i z size bytes ht hi hz hsize hby hzs hsz v n xs hv xv m ys hown h1 h63 hbytes hbase
    unfold Oper.wp execOp
    simp only [ho, resolve, invoke, builtin, Sem.run_bind, Sem.run_pure, Result.andThen_ok, List.map_toArray, List.map_cons, List.map_nil, hs, hx, hr]
    exact hK _ _ (h v' w' h2 h3 h4)

section
variable {w w' : World} {F : Nat → Prop} {b sg sc bg bc : Nat} {pv : Value} {d : Dk} {svs : List Value} {dvs : List (Nat × Value)}

theorem rlie_pushed {w5 : World} {g4 cap4 : Nat} {dv : Value} {F' : Nat → Prop} (h : RLie w F b sg sc bg bc pv d svs dvs) (p : Nat × List UInt8)
    (own : w5.ownsRow 0 51 2 (.slice (some ⟨g4, 0, none⟩) (d.pend.length + 1) cap4) (d.pend.length + 1) (dvs.flatMap wrt ++ wrt (p.1, dv)))
    (ho : Only (fun _ => False) w w5) (hg : w.heap.size ≤ g4) (hdv : Has w5 dv p.2) (hdb : ∀ j, blk dv = some j → w.heap.size ≤ j ∧ j < w5.heap.size ∧ j ≠ g4)
    (hF : ∀ k, F k → F' k) (hF2 : ∀ k, w.heap.size ≤ k → k < w5.heap.size → F' k) :
    RLie (w5.setCell ⟨b, 2, none⟩ (.slice (some ⟨g4, 0, none⟩) (d.pend.length + 1) cap4)) F' b sg sc bg bc (.slice (some ⟨g4, 0, none⟩) (d.pend.length + 1) cap4) { d with pend := d.pend ++ [p] } svs (dvs ++ [(p.1, dv)]) ∧
    Only (fun j => j = b) w (w5.setCell ⟨b, 2, none⟩ (.slice (some ⟨g4, 0, none⟩) (d.pend.length + 1) cap4)) := by
  have hbl := lt_of_block h.blk
  have hsl := (h.srow.lt sg rfl).2
  have hgl := (h.brow.lt bg rfl).2
  have hg5 := (own.lt g4 rfl).2
  have h5 := h.only ho (fun _ e => e.elim)
  have hset := (Only.refl (fun k => k = b) w5).here 2 (.slice (some ⟨g4, 0, none⟩) (d.pend.length + 1) cap4)
  have hall : Only (fun k => k = b) w (w5.setCell ⟨b, 2, none⟩ (.slice (some ⟨g4, 0, none⟩) (d.pend.length + 1) cap4)) := (ho.mono (fun _ _ e => e.elim)).trans hset (fun _ _ e => e)
  have hup : ∀ v s, RData w F b sg bg pv v s → RData (w5.setCell ⟨b, 2, none⟩ (.slice (some ⟨g4, 0, none⟩) (d.pend.length + 1) cap4)) F' b sg bg (.slice (some ⟨g4, 0, none⟩) (d.pend.length + 1) cap4) v s := fun v s hx => by
    have hy := hx.only hall (fun j hj => Or.inl hj)
    exact ⟨hy.has, hy.one, fun j hj => by
      obtain ⟨n1, n2, n3, n4, n5, n6⟩ := hx.off j hj
      exact ⟨n1, n2, n3, by simp only [Value.ownBlock, ne_eq, Option.some.injEq]; omega, (hy.off j hj).2.2.2.2.1, hF j n6⟩⟩
  refine ⟨⟨?_, ?_, ?_, ?_, by simp [h.dlen], h.sb, h.gb, h.sg', ?_, ?_, ?_, hF _ h.fb, hF _ h.fs, hF _ h.fg, ?_, fun k v hv => hup v _ (h.sdat k v hv), ?_⟩, hall⟩
  · rw [six_setCell h5.blk]
    rfl
  · exact hset.owns h5.srow (fun k hk => by simp only [Value.ownBlock, Option.some.injEq] at hk; subst hk; exact h.sb)
  · exact hset.owns h5.brow (fun k hk => by simp only [Value.ownBlock, Option.some.injEq] at hk; subst hk; exact h.gb)
  · have e1 : (d.pend ++ [p]).length = d.pend.length + 1 := by simp
    have e2 : (dvs ++ [(p.1, dv)]).flatMap wrt = dvs.flatMap wrt ++ wrt (p.1, dv) := by simp
    show World.ownsRow _ _ _ _ _ (d.pend ++ [p]).length _
    rw [e1, e2]
    exact hset.owns own (fun k hk e => by simp only [Value.ownBlock, Option.some.injEq] at hk; omega)
  · simp only [Value.ownBlock, ne_eq, Option.some.injEq]; omega
  · simp only [Value.ownBlock, ne_eq, Option.some.injEq]; omega
  · simp only [Value.ownBlock, ne_eq, Option.some.injEq]; omega
  · intro k hk
    simp only [Value.ownBlock, Option.some.injEq] at hk
    subst hk
    exact hF2 _ hg hg5
  · intro k q hq
    have hq' : (d.pend ++ [p])[k]? = some q := hq
    rcases Nat.lt_or_ge k d.pend.length with hk | hk
    · rw [List.getElem?_append_left hk] at hq'
      obtain ⟨dv', e, hd⟩ := h.pdat k q hq'
      exact ⟨dv', by rw [List.getElem?_append_left (by rw [h.dlen]; exact hk)]; exact e, hup _ _ hd⟩
    · have hk2 : k = d.pend.length := by
        have := (List.getElem?_eq_some_iff.1 hq').1
        simp at this
        omega
      subst hk2
      simp at hq'
      subst hq'
      refine ⟨dv, by rw [← h.dlen]; simp, ⟨fun bs e => by cases e; exact hdv.only hset (fun _ j hj e => by have := hdb j hj; omega), hdv.one, fun j hj => ?_⟩⟩
      obtain ⟨m1, m2, m3⟩ := hdb j hj
      have hs5 : (w5.setCell ⟨b, 2, none⟩ (.slice (some ⟨g4, 0, none⟩) (d.pend.length + 1) cap4)).heap.size = w5.heap.size := by simp [World.setCell]
      refine ⟨by omega, by omega, by omega, ?_, by rw [hs5]; exact m2, hF2 j m1 m2⟩
      simp only [Value.ownBlock, ne_eq, Option.some.injEq]
      exact fun e => m3 e.symm

theorem wrt_one {l : List (Nat × Value)} (h : ∀ p ∈ l, p.2.oneCell' = true) : ∀ v ∈ l.flatMap wrt, v.oneCell' = true := by
  intro v hv
  obtain ⟨p, hp, hv⟩ := List.mem_flatMap.1 hv
  simp only [wrt, List.mem_cons, List.not_mem_nil, or_false] at hv
  rcases hv with rfl | rfl
  · rfl
  · exact h p hp

theorem RLie.dvs_one (h : RLie w F b sg sc bg bc pv d svs dvs) : ∀ p ∈ dvs, p.2.oneCell' = true := by
  intro p hp
  obtain ⟨k, hk, e⟩ := List.getElem_of_mem hp
  have hk' : k < d.pend.length := by rw [← h.dlen]; exact hk
  obtain ⟨dv, e2, hd⟩ := h.pdat k _ (List.getElem?_eq_getElem hk')
  rw [List.getElem?_eq_getElem hk, e] at e2
  cases e2
  exact hd.one

/-- what a Write leaves -/
structure RWrote (w w' : World) (F : Nat → Prop) (b sg sc bg bc : Nat) (d' : Dk) (svs : List Value) : Prop where
  ex : ∃ F' pv' dvs', RLie w' F' b sg sc bg bc pv' d' svs dvs' ∧ (∀ j, F' j → (F j ∨ w.heap.size ≤ j)) ∧ (∀ j, F' j → j < w'.heap.size)
  only : Only (fun j => j = b) w w'

theorem RLie.cut (h : RLie w F b sg sc bg bc pv d svs dvs) : RLie w (fun j => F j ∧ j < w.heap.size) b sg sc bg bc pv d svs dvs := by
  have up : ∀ v s, RData w F b sg bg pv v s → RData w (fun j => F j ∧ j < w.heap.size) b sg bg pv v s := fun v s hx => ⟨hx.has, hx.one, fun j hj => by
    obtain ⟨n1, n2, n3, n4, n5, n6⟩ := hx.off j hj
    exact ⟨n1, n2, n3, n4, n5, n6, n5⟩⟩
  exact ⟨h.blk, h.srow, h.brow, h.prow, h.dlen, h.sb, h.gb, h.sg', h.pb, h.ps, h.pg, ⟨h.fb, lt_of_block h.blk⟩, ⟨h.fs, (h.srow.lt _ rfl).2⟩, ⟨h.fg, (h.brow.lt _ rfl).2⟩, fun j hj => ⟨h.fp j hj, (h.prow.lt j hj).2⟩, fun i v hv => up v _ (h.sdat i v hv), fun i p hp => by
    obtain ⟨dv, e, hd⟩ := h.pdat i p hp
    exact ⟨dv, e, up _ _ hd⟩⟩

set_option maxRecDepth 100000 in
set_option maxHeartbeats 2000000 in
theorem rkWrite_any (h : RLie w F b sg sc bg bc pv d svs dvs) (hf : d.Fine) (hwk : d.works ≤ 1000000) (k : Int) (xv : Value) (bs : List UInt8) (hx : Has w xv bs) (hxb : bs ≠ [] → ∀ j, blk xv = some j → ¬ F j) :
    Calls Try.prog 27 #[.pointer (some ⟨b, 0, none⟩), .int .i64 k, xv] w fun e w' => e = .returned (.int .i64 (d.writeE k bs)) ∧ RWrote w w' F b sg sc bg bc (d.write k bs) svs := by
  obtain ⟨xo, xc, hxv, hlc, hm⟩ := hx.shape
  subst hxv
  obtain ⟨c0, c1, c2, c3, c4, c5, fz⟩ := cells_six h.blk
  have hFb := h.fb
  have HX := hide hx
  have H := hide h
  have HF := hide hf
  have hmn := hf.many
  have hn1 := hf.n1
  have hn2 := hf.n2
  clear hx h hf
  have bad : d.there k = false ∨ bs.length ≠ 64 → d.writeE k bs = 1 ∧ d.write k bs = d := fun hb => by
    have hc : ¬ (d.there k = true ∧ bs.length = 64) := fun ⟨a, c⟩ => by rcases hb with hb | hb; rw [hb] at a; cases a; exact hb c
    unfold Dk.writeE Dk.write
    rw [if_neg hc, if_neg hc]
    exact ⟨rfl, rfl⟩
  have stay : RWrote w w F b sg sc bg bc d svs := ⟨⟨_, pv, dvs, (unhide H).cut, fun j hj => Or.inl hj.1, fun j hj => hj.2⟩, Only.refl _ _⟩
  have STAY := hide stay
  have BAD := hide bad
  clear stay bad
  by_cases hk0 : k < 0
  · have hb := unhide BAD (Or.inl (by unfold Dk.there; simp; omega))
    rw [hb.1, hb.2]
    clear hb
    go_enter Try.func27, Try.ntmps27
    go_wp2_with fail
    go_ret
    exact ⟨rfl, unhide STAY⟩
  · by_cases hk1 : (d.secs.length : Int) ≤ k
    · have hb := unhide BAD (Or.inl (by unfold Dk.there; simp; omega))
      rw [hb.1, hb.2]
      clear hb
      go_enter Try.func27, Try.ntmps27
      go_wp2_with fail
      go_ret
      exact ⟨rfl, unhide STAY⟩
    · by_cases hl : bs.length = 64
      · obtain ⟨kn, rfl⟩ : ∃ kn : Nat, k = kn := ⟨k.toNat, by omega⟩
        have ht : d.there kn = true := by unfold Dk.there; simp; omega
        cases hfe : d.fell with
        | true =>
          have e1 : d.writeE kn bs = 9 := by unfold Dk.writeE; simp [ht, hl, hfe]
          have e2 : d.write kn bs = d.worked := by unfold Dk.write Dk.worked; simp [ht, hl, hfe]
          rw [e1, e2]
          have HE := hide hfe
          clear ht e1 e2 hfe STAY
          go_enter Try.func27, Try.ntmps27
          go_wp2_with fail
          refine (rkWork_any (unhide H) (unhide HF) hwk).mono ?_
          rintro e w2 ⟨rfl, h2, ho2⟩
          rw [unhide HE]
          go_wp2_with fail
          go_ret
          exact ⟨rfl, ⟨⟨_, pv, dvs, h2.cut, fun j hj => Or.inl hj.1, fun j hj => hj.2⟩, ho2⟩⟩
        | false =>
          have e1 : d.writeE kn bs = 0 := by unfold Dk.writeE; simp [ht, hl, hfe]
          have e2 : d.write kn bs = { d.spent with pend := d.pend ++ [(kn, bs)] } := by unfold Dk.write; simp [ht, hl, hfe]
          have e3 : d.worked = d.spent := by unfold Dk.worked; simp [hfe]
          rw [e1, e2]
          have HE := hide hfe
          have HE3 := hide e3
          clear ht e1 e2 hfe e3 STAY BAD
          obtain ⟨i0, hi, hz0, hz1, hz2⟩ := info_parts Try.infoWrite
          obtain ⟨i1, hj, hy0, hy1, hy2⟩ := info_parts Try.info5
          go_enter Try.func27, Try.ntmps27
          go_wp2_with fail
          refine (rkWork_any (unhide H) (unhide HF) hwk).mono ?_
          rintro e w2 ⟨rfl, h2, ho2⟩
          rw [unhide HE]
          rw [unhide HE3] at h2
          have hx2 := (unhide HX).only ho2 (fun hne j hj e => hxb hne j hj (e ▸ hFb))
          rw [hl] at hx2
          obtain ⟨e0, e1, e2, e3, e4, e5, fe⟩ := cells_six h2.blk
          have HX2 := hide hx2
          have H2 := hide h2
          have HO2 := hide ho2
          have hbl := lt_of_block h2.blk
          clear h2 ho2 hx2 c0 c1 c2 c3 c4 c5 fz
          have hprow := (unhide H2).prow
          rw [show d.spent.pend = d.pend from rfl] at hprow
          have HPR := hide hprow
          clear hprow
          go_wp2_with (first
            | (at_builtin; refine wpList_append_row rfl (.tmp 27) (.tmp 31) 32 rfl w2.heap.size 0 51 i0 (.agg #[.int .i64 0, .slice none 0 0]) 2 32 Try.underlying32 hi hz0 hz1 hz2 rfl (by decide) _ 0 [] rfl (World.ownsRow_lit w2 #[] 0 (Nat.le_refl _) (Nat.zero_le _) rfl) _ d.pend.length (dvs.flatMap wrt) rfl ((unhide HPR).alloc _) (wrt_one (unhide H2).dvs_one) (by unfold maxLen; omega) (by omega) (by simp) ?_; intro v3 w3 own3 gr3 at3; rw [Nat.zero_add, List.nil_append] at own3; have HW3 := hide own3; have HO3 := hide (((Only.refl (fun _ => False) w2).alloc _).grown gr3 (fun j hj hl => by simp only [Value.ownBlock, Act.eval] at hj; have hj2 : w2.heap.size = j := Option.some.inj hj; omega)); have HX3 := hide ((unhide HX2).only (unhide HO3) (fun _ _ _ h => h)); clear own3 gr3 at3)
            | (at_builtin; refine wpList_append_has rfl (.tmp 34) (.tmp 35) 28 rfl w3.heap.size 5 i1 Try.underlying28 hj hy0 hy1 hy2 _ 0 [] rfl (World.ownsRow_lit w3 #[] 0 (Nat.le_refl _) (Nat.zero_le _) rfl) _ bs rfl ((unhide HX3).only ((Only.refl (fun _ => False) w3).alloc _) (fun _ _ _ h => h)) (by omega) (by simp) ?_; intro ao4 cap4 w4 own4 gr4 at4; rw [Nat.zero_add, hl] at own4; rw [Nat.zero_add, hl]; have HW4 := hide own4; have HO4 := hide (((Only.refl (fun _ => False) w3).alloc _).grown gr4 (fun j hj hl => by simp only [Value.ownBlock, Act.eval] at hj; have hj2 : w3.heap.size = j := Option.some.inj hj; omega)); clear own4 gr4 at4)
            | (at_builtin; refine wpList_append_lies _ rfl (.tmp 32) (.tmp 38) 32 rfl w2.heap.size 51 i0 (.agg #[.int .i64 0, .slice none 0 0]) 2 32 Try.underlying32 hi hz0 hz1 hz2 rfl (by decide) v3 d.pend.length (dvs.flatMap wrt) rfl (((unhide HO4).owns (unhide HW3) (fun _ _ h => h)).alloc _) ⟨w4.heap.size, 0, none⟩ 1 1 (wrt (kn, .slice ao4 64 cap4)) rfl rfl (World.news_of_block (heap_alloc_new w4 _)) (fun u hu => by simp only [wrt, List.mem_cons, List.not_mem_nil, or_false] at hu; rcases hu with rfl | rfl <;> rfl) (by decide) (by unfold maxLen; omega) (by omega) (by have h3 := (unhide HO3).size; have h4 := (unhide HO4).size; simp; omega) (w4.heap.size + 1) (by simp) ?_; intro g6 cap6 w6 own6 gr6 at6 lt6; have HO6 := hide (((((unhide HO3).trans (unhide HO4) (fun _ _ e => e)).alloc _).grown gr6 (fun j hj hl => by have := ((unhide HW3).lt j hj).1; omega))); have f2 := (unhide HO6).cell e2 (fun h => h); have f2z := (cells_six ((unhide HO6).heap (unhide H2).blk (fun h => h))).2.2.2.2.2.2 2))
          go_ret
          have hs3 := (unhide HO3).size
          have hs4 := (unhide HO4).size
          have hs6 := gr6.size
          simp only [World.size_alloc] at hs6
          have hgs : w2.heap.size ≤ g6 := by
            rcases at6 with e | e
            · exact ((unhide HW3).lt g6 e).1
            · omega
          have hb4 : ∀ j, blk (.slice ao4 64 cap4) = some j → w3.heap.size ≤ j ∧ j < w4.heap.size := fun j hj => (unhide HW4).lt j (own_blk (unhide HW4) j hj)
          have hd6 : Has w6 (.slice ao4 64 cap4) bs := by
            have h4 : Has w4 (.slice ao4 64 cap4) bs := Has.ofOwns (n := 64) (by have := unhide HW4; rwa [List.nil_append] at this)
            have h4a := h4.only ((Only.refl (fun _ => False) w4).alloc (.cells #[.int .i64 kn, .slice ao4 64 cap4] 51)) (fun _ _ _ h => h)
            exact h4a.only ((Only.refl (fun j => v3.ownBlock = some j) _).grown gr6 (fun j hj _ => hj)) (fun _ j hj e => by have := (hb4 j hj).1; have := ((unhide HW3).lt j e).2; omega)
          have hfin := rlie_pushed (F' := fun j => (F j ∨ w2.heap.size ≤ j) ∧ j < w6.heap.size) ((unhide H2).cut) (kn, bs) (dv := .slice ao4 64 cap4) (g4 := g6) (cap4 := cap6) (ownsRow_base own6 (Nat.zero_le _)) (unhide HO6) hgs hd6 (fun j hj => by
            have h1 := hb4 j hj
            refine ⟨by omega, by omega, ?_⟩
            rcases at6 with e | e
            · have := ((unhide HW3).lt g6 e).2; omega
            · omega) (fun j hj => ⟨Or.inl hj.1, Nat.lt_of_lt_of_le hj.2 (unhide HO6).size⟩) (fun j h1 h2 => ⟨Or.inr h1, h2⟩)
          have hsw := (unhide HO2).size
          have hse : (w6.setCell ⟨b, 2, none⟩ (.slice (some ⟨g6, 0, none⟩) (d.pend.length + 1) cap6)).heap.size = w6.heap.size := by simp [World.setCell]
          refine ⟨rfl, ⟨⟨_, _, _, hfin.1, fun j hj => ?_, fun j hj => ?_⟩, (unhide HO2).trans hfin.2 (fun _ _ e => e)⟩⟩
          · rcases hj.1 with e | e
            · exact Or.inl e
            · exact Or.inr (by omega)
          · rw [hse]; exact hj.2
      · have hb := unhide BAD (Or.inr hl)
        rw [hb.1, hb.2]
        clear hb
        have hl' : ¬ (bs.length : Int) = 64 := by omega
        go_enter Try.func27, Try.ntmps27
        go_wp2_with fail
        go_ret
        exact ⟨rfl, unhide STAY⟩
end

end Go.Proofs.Ytjhcmhdekppplaa
