/-
  locksmithlaw5's with: pairs behind changes.
  locksmithlaw5's is: has a store just these pairs?
  StoreAgain: opened again, a store has the same pairs.
  StoreWhole: wherever the disk falls, opened again the pairs are those behind the units that were told, or one more.
-/
import Derived.Test.YtmcobkcnpnfobaaStMaps
import Derived.Test.YtmcobkcnpnfobaaStListAll
import Derived.Test.YtmcobkcnpnfobaaStStore
import Derived.Test.YtmcobkcnpnfobaaStr
import Derived.Deep.QuietTactic
import Derived.BigQuiet
import Derived.Test.YtmcobkcnpnfobaaStKnown
import Derived.Test.YtmcobkcnpnfobaaStFitsAll
import Derived.Deep.DeepCutAuto
import Derived.Deep.CutBlock
namespace Go.Proofs.Ytmcobkcnpnfobaa
open Go.RowKit Go.Maps
set_option linter.unusedSimpArgs false
set_option linter.unusedVariables false

namespace St

/-- block mb is a map of strings: these pairs -/
def MapS (w : World) (mb n : Nat) (P : Prs) : Prop := MapV (fun v bs => v = encStr bs) w mb n P

section
variable {S : Nat → Prop} {w w' : World} {mb n : Nat} {P : Prs}
theorem MapS.only (h : MapS w mb n P) (ho : Only S w w') (hb : ¬ S mb) : MapS w' mb n P := MapV.only h ho hb
theorem MapS.same (h : MapS w mb n P) (ho : Only (fun _ => False) w w') : MapS w' mb n P := h.only ho (fun e => e)
theorem MapS.more (h : MapS w mb n P) {m : Nat} (hm : n ≤ m) : MapS w mb m P := MapV.more h hm
theorem MapS.lt (h : MapS w mb n P) : mb < w.heap.size := MapV.lt h
theorem mapS_made (w : World) : MapS (w.alloc (.map #[] 0)) w.heap.size 0 [] := mapV_made _ w
end

set_option maxHeartbeats 2000000 in
set_option maxRecDepth 100000 in
theorem with_any {Q : Nat → Prop} {w : World} {mb m : Nat} {P : Prs} (h : MapS w mb m P) (xv : Value) (cs : List Chg) (hx : HasC Q w xv cs)
    (hn : m + cs.length < 9223372036854775807) (hcs : cs.length ≤ 140737488355328) (hok : ∀ c ∈ cs, c.key.length ≤ 9223372036854775807 ∧ c.value.length ≤ 140737488355328) :
    Calls Try.prog 21 #[.map (some mb), xv] w fun e w' => e = .returned (.map (some w.heap.size)) ∧ MapS w' w.heap.size (m + cs.length) (done P cs) ∧ Only (fun _ => False) w w' := by
  have HX := hide hx
  obtain ⟨xo, xc, hxv, hlc, hmc⟩ := hx.shape
  subst hxv
  have hlt0 := h.lt
  have hsort := h.sorted
  obtain ⟨D, hD, hR⟩ := h.own
  have HR := hide hR
  have HD := hide hD
  have HSO := hide hsort
  have HOK := hide hok
  have hmm := @run_makeMap Try.prog
  have hDA : (w.alloc (.map #[] 0)).ownsMap Try.prog 9 rv mb m D := ownsMap_only hD ((Only.refl (fun _ => False) w).alloc _) (fun e => e)
  have hszD : Maps.size D ≤ m := hD.size_le
  have e1 : (w.alloc (.map #[] 0)).heap.size = w.heap.size + 1 := by simp
  clear hx h hok hsort hR hD
  obtain ⟨n, hnn⟩ : ∃ n, n = cs.length := ⟨_, rfl⟩
  have HN := hide hnn
  rw [← hnn] at HX hlc hn hcs ⊢
  clear hnn
  go_enter Try.func21, Try.ntmps21
  go_wp2_with (first
    | (at_range; refine wpList_range_own _ rfl (.tmp 10) 47 rfl 9 9 law Try.underlying47 rv mb m D rfl hDA ?_; intro w0 hrg0 hg0 hs0)
    | go_in)
  go_frame
  rw [e1] at hrg0 hs0 ⊢
  have o0 := (Only.refl (fun _ => False) _).grown hg0 (fun k hk _ => by cases hk)
  have HRG := hide hrg0
  have HM0 : Hid (w0.ownsMap Try.prog 9 rv w.heap.size (Maps.size D - Maps.size D) (.map [])) := (ownsMap_only (World.ownsMap_made _ _ _ _) o0 (fun e => e)).mono (Nat.zero_le _)
  have HO0 := hide (((Only.refl (fun _ => False) w).alloc (.map #[] 0)).trans o0 (fun _ _ e => e))
  clear hrg0 hg0 hs0 o0 hDA e1
  go_loopw [6, 7] (fun _ _ wr => ∃ (left : Lit → Bool) (cnt : Nat) (E : DataW Value), wr.ranges Try.prog 9 rv mb (w.heap.size + 1) m D left cnt ∧ cnt ≤ Maps.size D ∧ wr.ownsMap Try.prog 9 rv w.heap.size (Maps.size D - cnt) E ∧ Agree E D left ∧ Only (fun _ => False) w wr) (fun _ _ wr => wr.rangeLeft mb (w.heap.size + 1))
  case atStart => exact ⟨_, _, .map [], unhide HRG, Nat.le_refl _, unhide HM0, agree_start D, unhide HO0⟩
  case round =>
    obtain ⟨left, cnt, E, hrg, hcn, hE, hA, hon⟩ := hrel
    have HA := hide hA
    have HE := hide hE
    have HON := hide hon
    have HRG1 := hide hrg
    clear hA hE hon
    go_wp2_with (at_next; refine wpList_next_ranges _ rfl (.tmp 11) rfl 9 law rv encStr (fun v : Value => v) (fun key kl hk => by obtain ⟨x, hx, _⟩ := Maps.keyOf_str Try.underlying9 hk; exact ⟨x, hx⟩) (fun v y _ => ⟨v, rfl⟩) mb (w.heap.size + 1) m D left cnt rfl hrg ?_ ?_)
    · intro hc0 hl0
      have hED := agree_end (unhide HA) hl0 ((unhide HE).canon law) ((unhide HRG1).owns.canon law)
      have HMS : Hid (MapS wr w.heap.size m P) := MapV.more ⟨unhide HSO, E, unhide HE, by rw [hED]; exact unhide HR⟩ (by omega)
      clear hrg hc0 hl0 hED HA HE HRG1
      go_wp2
      go_loopw [8] (fun i wq => ∃ k : Nat, k ≤ n ∧ i = .int .i64 k ∧ MapS wq w.heap.size (m + k) (done P (cs.take k)) ∧ Only (fun _ => False) w wq) (fun i _ => n - (intOf i).toNat)
      case atStart => exact ⟨0, Nat.zero_le _, rfl, unhide HMS, unhide HON⟩
      case round =>
        obtain ⟨k, hk, rfl, hm, ho⟩ := hrel
        have HM := hide hm
        have HO := hide ho
        have hs := ho.size
        clear hm ho
        by_cases hlt : k < n
        · have hku : k < cs.length := by have := unhide HN; omega
          have hlt' : (k : Int) < n := by omega
          obtain ⟨bb, off, x, hao, hc0, hc1, hc2, hxh, hxq⟩ := (((unhide HX).mono (R := fun j => j < w.heap.size) (fun j hj _ => hj)).same (unhide HO)).at k hku
          subst hao
          have HBB : bb < w.heap.size := by
            obtain ⟨bb2, off2, x2, hao2, hd0, _⟩ := (unhide HX).at k hku
            cases hao2
            exact World.block_lt_of_cell? w _ hd0
          have HXB : cs[k].value ≠ [] → ∀ j, blk x = some j → ¬ j = w.heap.size := fun hne j hj e => by have := hxq hne j hj; omega
          have HXH := hide hxh
          have HDT := hide (done_take hku P)
          have hokk := unhide HOK cs[k] (List.getElem_mem hku)
          obtain ⟨c, hc⟩ : ∃ c, c = cs[k] := ⟨_, rfl⟩
          rw [← hc] at hc0 hc1 HDT HXH hokk HXB
          clear hc hxh hxq
          obtain ⟨key, has, value⟩ := c
          simp only at hc0 hc1 HXH hokk HXB
          have HXB := hide HXB
          obtain ⟨yo, yc, hyv, _⟩ := (unhide HXH).shape
          subst hyv
          cases has with
          | true =>
            have HON1 : Hid (one (done P (cs.take k)) ⟨key, true, value⟩ = put key value (done P (cs.take k))) := rfl
            go_wp2
            refine wp_region_held_drew (S := (fun w' => w'.cell? ⟨bb, off + k * 3, none⟩ = some (encStr key) ∧ w'.cell? ⟨bb, off + k * 3 + 2, none⟩ = some (.slice yo value.length yc) ∧ Has w' (.slice yo value.length yc) value)) (by kernel_rfl) (⟨hc0, hc2, unhide HXH⟩) (fun hHeld => ?_)
            refine wpAnyH_take (i := 0) (v := ?v101) rfl (by kernel_rfl) (by kernel_rfl) (by kernel_rfl) (fun _ _ _ h => h) (Or.inl ⟨by rfl, ?hy101⟩) (by assumption) ?rest101
            case hy101 =>
              intro w hSw
              go_simp
              try with_reducible rfl
            try simp only [Act.put, List.setIfInBounds_toArray, List.set_cons_zero, List.set_cons_succ, List.getElem_toArray, List.getElem_cons_succ, List.getElem_cons_zero]
            refine wpAnyH_take (i := 1) (v := ?v102) rfl (by kernel_rfl) (by kernel_rfl) (by kernel_rfl) (fun _ _ _ h => h) (Or.inl ⟨by rfl, ?hy102⟩) (by assumption) ?rest102
            case hy102 =>
              intro w hSw
              go_simp
              try with_reducible rfl
            try simp only [Act.put, List.setIfInBounds_toArray, List.set_cons_zero, List.set_cons_succ, List.getElem_toArray, List.getElem_cons_succ, List.getElem_cons_zero]
            refine wpAnyH_take (i := 2) (v := ?v103) rfl (by kernel_rfl) (by kernel_rfl) (by kernel_rfl) (fun _ _ _ h => h) (Or.inl ⟨by rfl, ?hy103⟩) (by assumption) ?rest103
            case hy103 =>
              intro w hSw
              go_simp
              try with_reducible rfl
            try simp only [Act.put, List.setIfInBounds_toArray, List.set_cons_zero, List.set_cons_succ, List.getElem_toArray, List.getElem_cons_succ, List.getElem_cons_zero]
            refine wpAnyH_take (i := 3) (v := ?v104) rfl (by kernel_rfl) (by kernel_rfl) (by kernel_rfl) (fun _ _ _ h => h) (Or.inl ⟨by rfl, ?hy104⟩) (by assumption) ?rest104
            case hy104 =>
              intro w hSw
              go_simp
              try with_reducible rfl
            try simp only [Act.put, List.setIfInBounds_toArray, List.set_cons_zero, List.set_cons_succ, List.getElem_toArray, List.getElem_cons_succ, List.getElem_cons_zero]
            refine wpAnyH_take (i := 4) (v := ?v105) rfl (by kernel_rfl) (by kernel_rfl) (by kernel_rfl) (fun _ _ _ h => h) (Or.inl ⟨by rfl, ?hy105⟩) (by assumption) ?rest105
            case hy105 =>
              intro w hSw
              go_simp
              try with_reducible rfl
            try simp only [Act.put, List.setIfInBounds_toArray, List.set_cons_zero, List.set_cons_succ, List.getElem_toArray, List.getElem_cons_succ, List.getElem_cons_zero]
            refine wpAnyH_take (i := 5) (v := ?v106) rfl (by kernel_rfl) (by kernel_rfl) (by kernel_rfl) (fun _ _ _ h => h) (Or.inl ⟨by rfl, ?hy106⟩) (by assumption) ?rest106
            case hy106 =>
              intro w hSw
              (obtain ⟨q0, q1, q2⟩ := hSw; go_simp; try with_reducible rfl)
            try simp only [Act.put, List.setIfInBounds_toArray, List.set_cons_zero, List.set_cons_succ, List.getElem_toArray, List.getElem_cons_succ, List.getElem_cons_zero]
            refine wpAnyH_take (i := 6) (v := ?v107) rfl (by kernel_rfl) (by kernel_rfl) (by kernel_rfl) (fun _ _ _ h => h) (Or.inl ⟨by rfl, ?hy107⟩) (by assumption) ?rest107
            case hy107 =>
              intro w hSw
              go_simp
              try with_reducible rfl
            try simp only [Act.put, List.setIfInBounds_toArray, List.set_cons_zero, List.set_cons_succ, List.getElem_toArray, List.getElem_cons_succ, List.getElem_cons_zero]
            refine wpAnyH_take (i := 7) (v := ?v108) rfl (by kernel_rfl) (by kernel_rfl) (by kernel_rfl) (fun _ _ _ h => h) (Or.inl ⟨by rfl, ?hy108⟩) (by assumption) ?rest108
            case hy108 =>
              intro w hSw
              go_simp
              try with_reducible rfl
            try simp only [Act.put, List.setIfInBounds_toArray, List.set_cons_zero, List.set_cons_succ, List.getElem_toArray, List.getElem_cons_succ, List.getElem_cons_zero]
            refine wpAnyH_take (i := 8) (v := ?v109) rfl (by kernel_rfl) (by kernel_rfl) (by kernel_rfl) (fun _ _ _ h => h) (Or.inl ⟨by rfl, ?hy109⟩) (by assumption) ?rest109
            case hy109 =>
              intro w hSw
              go_simp
              try with_reducible rfl
            try simp only [Act.put, List.setIfInBounds_toArray, List.set_cons_zero, List.set_cons_succ, List.getElem_toArray, List.getElem_cons_succ, List.getElem_cons_zero]
            refine wpAnyH_take (i := 9) (v := ?v110) rfl (by kernel_rfl) (by kernel_rfl) (by kernel_rfl) (fun _ _ _ h => h) (Or.inl ⟨by rfl, ?hy110⟩) (by assumption) ?rest110
            case hy110 =>
              intro w hSw
              go_simp
              try with_reducible rfl
            try simp only [Act.put, List.setIfInBounds_toArray, List.set_cons_zero, List.set_cons_succ, List.getElem_toArray, List.getElem_cons_succ, List.getElem_cons_zero]
            refine wpAnyH_take (i := 10) (v := ?v111) rfl (by kernel_rfl) (by kernel_rfl) (by kernel_rfl) (fun _ _ _ h => h) (Or.inl ⟨by rfl, ?hy111⟩) (by assumption) ?rest111
            case hy111 =>
              intro w hSw
              (obtain ⟨q0, q1, q2⟩ := hSw; go_simp; try with_reducible rfl)
            try simp only [Act.put, List.setIfInBounds_toArray, List.set_cons_zero, List.set_cons_succ, List.getElem_toArray, List.getElem_cons_succ, List.getElem_cons_zero]
            refine wpAnyH_take (i := 11) (v := ?v112) rfl (by kernel_rfl) (by kernel_rfl) (by kernel_rfl) (fun _ _ _ h => h) (Or.inl ⟨by rfl, ?hy112⟩) (by assumption) ?rest112
            case hy112 =>
              intro w hSw
              (obtain ⟨q0, q1, q2⟩ := hSw; have hcv := str_conv q2; go_simp; try with_reducible rfl)
            try simp only [Act.put, List.setIfInBounds_toArray, List.set_cons_zero, List.set_cons_succ, List.getElem_toArray, List.getElem_cons_succ, List.getElem_cons_zero]
            have hM1 : MapS wr.drew w.heap.size (m + k) (done P (cs.take k)) := (unhide HM).same ((Only.refl _ _).drew)
            have hbb : bb ≠ w.heap.size := by have := HBB; omega
            refine wpAnyH_ready (rs := [12]) (by kernel_rfl) (by simp) ?_
            refine AllReadyH.cons rfl (fun K hK => ?_) AllReadyH.nil
            refine step_mput rfl (.tmp 31) (.tmp 36) (.tmp 42) 47 9 rfl Try.underlying47 rfl hM1 (by unfold maxLen; omega) key value (encStr value) rfl rfl (by unfold maxLen; omega) rfl ?_; intro w2 hm2 g2; have o2 : Only (fun k => k = w.heap.size) wr w2 := ((Only.refl (fun k => k = w.heap.size) wr).drew).grown g2 (fun k hk _ => by cases hk; rfl); have h2 := (unhide HXH).only o2 (unhide HXB)
            refine hK.out _ _ (⟨o2.cell hc0 hbb, o2.cell hc2 hbb, h2⟩) (fun hHeld => ?_)
            clear hK K
            try simp only [Act.put, List.setIfInBounds_toArray, List.set_cons_zero, List.set_cons_succ, List.getElem_toArray, List.getElem_cons_succ, List.getElem_cons_zero]
            refine wpAnyH_done (by kernel_rfl) ?_ _
            have HM2 := hide hm2
            have HO2 := hide ((unhide HO).trans o2 (fun i hi e => by omega))
            clear hm2 g2 hM1 o2 h2
            go_wp2
            go_roundw
            case rel =>
              refine ⟨k + 1, by omega, by go_num, ?_, unhide HO2⟩
              rw [unhide HDT, unhide HON1]
              exact unhide HM2
            case measure => simp [intOf]; omega
          | false =>
            have HON1 : Hid (one (done P (cs.take k)) ⟨key, false, value⟩ = del key (done P (cs.take k))) := rfl
            have hM1 : MapS wr w.heap.size (m + k) (done P (cs.take k)) := unhide HM
            go_wp2_with (at_delete; refine wpList_mdel rfl (.tmp 43) (.tmp 48) 47 9 rfl Try.underlying47 rfl hM1 key rfl (by unfold maxLen; omega) ?_; intro w2 hm2 g2)
            have o2 : Only (fun k => k = w.heap.size) wr w2 := (Only.refl (fun k => k = w.heap.size) wr).grown g2 (fun k hk _ => by cases hk; rfl)
            refine ⟨⟨k + 1, by omega, by go_num, ?_, (unhide HO).trans o2 (fun i hi e => by omega)⟩, by simp [intOf]; omega⟩
            rw [unhide HDT, unhide HON1]
            exact MapS.more hm2 (by omega)
        · obtain rfl : n = k := by omega
          have htk : cs.take n = cs := List.take_of_length_le (by have := unhide HN; omega)
          rw [htk] at HM
          go_wp2
          go_ret
          exact ⟨rfl, unhide HM, unhide HO⟩
    · intro x c kl yd yp w2 cnt2 hkey hlk hv2 hat hrg2 hlt2 hg2 hs2 hen
      obtain ⟨x', ex, rfl, hxl⟩ := Maps.keyOf_str Try.underlying9 hkey
      obtain rfl : x = x' := encStr_inj ex
      have o1 : Only (fun k => k = w.heap.size + 1) wr w2 := (Only.refl _ wr).grown hg2 (fun k hk _ => by cases hk; rfl)
      have hE1 := ownsMap_only (unhide HE) o1 (fun e => by omega)
      have HAT := hide hat
      have HRG2 := hide hrg2
      have HK := hide hkey
      have hyd : yd = .held c := by unfold rv at hv2; simp only [Option.some.injEq, Prod.mk.injEq] at hv2; exact hv2.1.symm
      have HYD := hide hyd
      have HLE : Hid (cnt2 < cnt) := hlt2
      have HO1 := hide o1
      clear hat hrg2 hkey hv2 hg2 ex o1 hyd hlk
      go_wp2_with (first
        | (at_mapUpdate; refine wpList_mapUpdate_own _ rfl (.tmp 17) (.tmp 18) (.tmp 19) 47 rfl 9 9 law Try.underlying47 rv w.heap.size _ _ rfl hE1 (by unfold maxLen; omega) _ _ _ rfl rfl (unhide HK) (.held c) [] rfl ?_; intro w3 hE3 hg3; go_frame)
        | go_in)
      have hrg3 := (unhide HRG2).kept hg3 (fun e => by have := Option.some.inj e; omega) (fun e => by have := Option.some.inj e; omega)
      go_roundw
      case rel =>
        refine ⟨_, cnt2, _, hrg3, by have := unhide HLE; omega, hE3.mono (by have := unhide HLE; omega), agree_step (unhide HA) (unhide HE).isMap trivial (fun zd => by rw [unhide HAT zd, unhide HYD]), ?_⟩
        have o3 : Only (fun k => k = w.heap.size) w2 w3 := (Only.refl _ w2).grown hg3 (fun k hk _ => by cases hk; rfl)
        exact ((unhide HON).trans (unhide HO1) (fun i hi e => by omega)).trans o3 (fun i hi e => by omega)
      case measure => rw [hrg3.left_eq, (unhide HRG1).left_eq]; exact unhide HLE
end St
end Go.Proofs.Ytmcobkcnpnfobaa

namespace Go.Proofs.Ytmcobkcnpnfobaa
open Go.RowKit Go.Maps
set_option linter.unusedSimpArgs false
set_option linter.unusedVariables false

namespace St

/-- no value is long -/
def Short (P : Prs) : Prop := ∀ p ∈ P, p.2.length ≤ 1000
theorem Short.put {P : Prs} (h : Short P) (k v : K) (hv : v.length ≤ 1000) : Short (put k v P) := fun q hq => by
  rcases mem_put hq with e | e
  · rw [e]; exact hv
  · exact h q e
theorem Short.del {P : Prs} (h : Short P) (k : K) : Short (del k P) := fun q hq => h q (List.mem_filter.1 hq).1
theorem Short.done : ∀ (cs : List Chg) {P : Prs}, Short P → (∀ c ∈ cs, c.value.length ≤ 1000) → Short (done P cs)
  | [], P, h, _ => h
  | c :: cs, P, h, hc => by
    show Short (St.done (one P c) cs)
    refine Short.done cs ?_ (fun x hx => hc x (List.mem_cons_of_mem _ hx))
    unfold one
    split
    · exact h.put _ _ (hc c (by simp))
    · exact h.del _

theorem sub_len : ∀ (Q P : Prs), Sorted P → Sorted Q → (∀ p ∈ P, p ∈ Q) → P.length ≤ Q.length ∧ (P.length = Q.length → P = Q)
  | Q, [], _, _, _ => ⟨Nat.zero_le _, fun h => by cases Q with | nil => rfl | cons _ _ => cases h⟩
  | [], p :: P, _, _, h => absurd (h p (by simp)) (by simp)
  | q :: Q, p :: P, hP, hQ, h => by
    have hP' := List.pairwise_cons.1 hP
    have hQ' := List.pairwise_cons.1 hQ
    rcases List.mem_cons.1 (h p (by simp)) with e | e
    · subst e
      have ih := sub_len Q P hP'.2 hQ'.2 (fun x hx => by
        rcases List.mem_cons.1 (h x (List.mem_cons_of_mem _ hx)) with e2 | e2
        · exact absurd (hP'.1 x hx) (by rw [e2]; exact klt_irrefl _)
        · exact e2)
      simp only [List.length_cons]
      exact ⟨by omega, fun e => by rw [ih.2 (by omega)]⟩
    · have hqp := hQ'.1 p e
      have ih := sub_len Q (p :: P) hP hQ'.2 (fun x hx => by
        rcases List.mem_cons.1 (h x hx) with e2 | e2
        · subst e2
          rcases List.mem_cons.1 hx with e3 | e3
          · rw [e3]; exact e
          · exact absurd (klt_trans (hP'.1 x e3) hqp) (klt_irrefl _)
        · exact e2)
      simp only [List.length_cons] at ih ⊢
      exact ⟨by omega, fun e => by omega⟩

theorem zstr (w : World) : (zeroValue 9).run Try.prog w = .ok (.string ByteArray.empty) w := by kernel_rfl
section
variable {w : World} {ops : Array Oper} {rest : List Oper} {o : Oper} {a : Act} {Q' : Exit → Act → World → Prop} {b n : Nat} {P : Prs}
theorem wpList_hitS (hg : o.guard = none) (m x : Operand) (hop : o.op = Op.lookup 47 m x true)
    (hm : a.eval m = .map (some b)) (h : MapS w b n P) (k bs : K) (hx : a.eval x = encStr k) (hk : k.length ≤ maxLen) (hget : get P k = some bs)
    (hK : wpList Try.prog ops Q' rest (a.put o.dst (.tuple #[.string (str bs), .bool true])) w) : wpList Try.prog ops Q' (o :: rest) a w :=
  wpList_hit_ok hg m x _ 9 _ hop Try.underlying47 (zstr _) hm h k bs hx hk hget (fun v hq => by
    rw [hq]
    exact hK)
theorem wpList_missS (hg : o.guard = none) (m x : Operand) (hop : o.op = Op.lookup 47 m x true)
    (hm : a.eval m = .map (some b)) (h : MapS w b n P) (k : K) (hx : a.eval x = encStr k) (hk : k.length ≤ maxLen) (hget : get P k = none)
    (hK : wpList Try.prog ops Q' rest (a.put o.dst (.tuple #[.string ByteArray.empty, .bool false])) w) : wpList Try.prog ops Q' (o :: rest) a w :=
  wpList_miss_ok hg m x _ 9 _ hop Try.underlying47 (zstr _) hm h k hx hk hget hK
end
theorem str_inj {a b : List UInt8} (h : str a = str b) : a = b := by
  unfold str at h
  have := congrArg (fun x : ByteArray => x.data.toList) h
  simpa using this

theorem keys_at {P : Prs} {i : Nat} (hi : i < P.length) : (keys P)[i]? = some P[i].1 := by
  unfold keys
  rw [List.getElem?_map, List.getElem?_eq_getElem hi]
  rfl

set_option maxHeartbeats 2000000 in
set_option maxRecDepth 100000 in
theorem is_any {w0 w : World} {B sb n mb m u : Nat} {X : Nat → Prop} {s : LD} {P Q : Prs} (h : Stt w0 w B sb X s P u n) (hm : MapS w mb m Q) (hn : n ≤ 1000000000) (hS : Short P) :
    Calls Try.prog 22 #[.pointer (some ⟨sb, 0, none⟩), .map (some mb)] w fun e w' => e = .returned (.bool (decide (P = Q))) ∧ Only (fun _ => False) w w' := by
  have H := hide h
  have HM := hide hm
  have HS := hide hS
  have HSP := hide h.key_le.1
  have HKL := hide h.key_le.2.2
  have HSQ := hide (MapV.sorted hm)
  have hPn := h.key_le.2.1
  have HKE := hide (stt_keys h hn)
  clear h hm hS
  go_enter Try.func22, Try.ntmps22
  go_wp2_with fail
  refine (unhide HKE).mono ?_
  rintro e w1 ⟨kv, rfl, hk1, o1⟩
  have HK1 := hide hk1
  have HO1 := hide o1
  obtain ⟨ko, kc, hkv⟩ := ownsRow_shape hk1
  subst hkv
  have hm1 : MapS w1 mb m Q := (unhide HM).same o1
  clear hk1 o1
  by_cases hlen : P.length = Q.length
  · have HLEN := hide hlen
    have hleni : ((P.length : Int) == Q.length) = true := by simp [hlen]
    obtain ⟨pl, hpl⟩ : ∃ pl, pl = P.length := ⟨_, rfl⟩
    have HPL := hide hpl
    rw [← hpl] at hleni HK1 hPn ⊢
    clear hlen hpl
    go_wp2_with (first
      | (at_len; refine wpList_mlen rfl (.tmp 15) 47 9 rfl Try.underlying47 rfl hm1 ?_; rw [← unhide HLEN, ← unhide HPL]))
    have HM1 := hide hm1
    clear hm1
    go_loopw [6, 7, 8, 9, 10] (fun i _ _ _ _ wr => ∃ k : Nat, k ≤ pl ∧ i = .int .i64 k ∧ Hid (∀ j, j < k → ∀ hj : j < P.length, P[j] ∈ Q) ∧ Only (fun _ => False) w1 wr) (fun i _ _ _ _ _ => pl - (intOf i).toNat)
    case atStart => exact ⟨0, Nat.zero_le _, rfl, fun j hj => absurd hj (Nat.not_lt_zero _), Only.refl _ _⟩
    case round =>
      obtain ⟨k, hk, rfl, HQ, ho⟩ := hrel
      have HO := hide ho
      clear ho
      by_cases hlt : k < pl
      · have hkp : k < P.length := by rw [← unhide HPL]; exact hlt
        have hlt' : (k : Int) < pl := by omega
        obtain ⟨bb, off, hao, hl2, hcs⟩ := ((HasV.ofOwns (unhide HK1)).only (unhide HO) (fun _ _ _ e => e)).at (by omega)
        subst hao
        have hc0 := hcs k (by simp [keys]; exact hkp)
        simp only [keys, List.getElem_map] at hc0
        have hc1 : 0 < k → wr.cell? ⟨bb, off + (k - 1), none⟩ = some (encStr (P[k - 1]'(by omega)).1) := fun h0 => by
          have := hcs (k - 1) (by simp [keys]; omega)
          simpa only [keys, List.getElem_map] using this
        have hmem : P[k] ∈ P := List.getElem_mem hkp
        have hget : get P P[k].1 = some P[k].2 := (get_mem (unhide HSP)).2 hmem
        have hkl := unhide HKL P[k].1 (List.mem_map.2 ⟨_, hmem, rfl⟩)
        have hsh := unhide HS _ hmem
        have HG := hide (stt_get ((unhide H).same ((unhide HO1).trans (unhide HO) (fun _ _ e => e))) P[k].1 P[k].2 hkl hget (by omega))
        have hlt1 : 0 < k → ((P[k - 1]'(by omega)).1) < P[k].1 := fun h0 => List.pairwise_iff_getElem.1 (unhide HSP) (k - 1) k (by omega) hkp (by omega)
        have HSTEP : Hid (P[k] ∈ Q → ∀ j, j < k + 1 → ∀ hj : j < P.length, P[j] ∈ Q) := fun hq j hj hj2 => by
          rcases Nat.lt_or_ge j k with h | h
          · exact unhide HQ j h hj2
          · obtain rfl : j = k := by omega
            exact hq
        have HBAD : Hid (¬ P[k] ∈ Q → ¬ P = Q) := fun h e => h (by rw [← e]; exact hmem)
        obtain ⟨key, hkey⟩ : ∃ x, x = P[k].1 := ⟨_, rfl⟩
        obtain ⟨val, hval⟩ : ∃ x, x = P[k].2 := ⟨_, rfl⟩
        have HPAIR : Hid (P[k] = (key, val)) := by rw [hkey, hval]; exact rfl
        rw [← hkey] at hc0 hkl HG hlt1
        rw [← hval] at HG
        clear hkey hval hget hsh hcs hmem hl2
        go_wp2_with fail
        refine (unhide HG).mono ?_
        rintro e w2 ⟨v2, rfl, hv2, o2⟩
        have HV2 := hide (Has.ofOwns hv2.out)
        obtain ⟨vo, vc, hvs, _⟩ := (unhide HV2).shape
        subst hvs
        have d0 := o2.cell hc0 (fun e => e)
        have d1 : 0 < k → w2.cell? ⟨bb, off + (k - 1), none⟩ = some (encStr (P[k - 1]'(by omega)).1) := fun h0 => o2.cell (hc1 h0) (fun e => e)
        have hm2 : MapS w2 mb m Q := (unhide HM1).same ((unhide HO).trans o2 (fun _ _ e => e))
        have HO2 := hide ((unhide HO).trans o2 (fun _ _ e => e))
        have hcv : ∀ q, (convert 30 9 (.slice vo val.length vc)).run Try.prog (w2.drewN q) = .ok (.string (str val)) (w2.drewN q) := fun q => str_conv ((unhide HV2).only (Only.drews q) (fun _ _ _ e => e))
        clear hc0 hc1 hv2 o2
        rcases hq : get Q key with _ | v'
        · have hnq : ¬ P[k] ∈ Q := fun e => by rw [unhide HPAIR] at e; rw [(get_mem (unhide HSQ)).2 e] at hq; cases hq
          have HNE := hide (unhide HBAD hnq)
          have HQN := hide hq
          clear hnq hq d1
          go_wp2_with (at_lookup; refine wpList_missS rfl (.tmp 34) (.tmp 38) rfl rfl hm2 key rfl hkl (unhide HQN) ?_)
          go_quiet (fail)
          go_wp2
          go_ret
          exact ⟨by simp [unhide HNE], ((unhide HO1).trans (unhide HO2) (fun _ _ e => e)).trans (Only.drews _) (fun _ _ e => e)⟩
        · have HQN := hide hq
          by_cases hvv : val = v'
          · subst hvv
            have hin : P[k] ∈ Q := by rw [unhide HPAIR]; exact (get_mem (unhide HSQ)).1 hq
            have HIN := hide (unhide HSTEP hin)
            clear hin hq
            go_wp2_with (at_lookup; refine wpList_hitS rfl (.tmp 34) (.tmp 38) rfl rfl hm2 key val rfl hkl (unhide HQN) ?_)
            by_cases h0 : 0 < k
            · have hk0 : (0 : Int) < k := by omega
              have hkm : IntKind.i64.wrap ((k : Int) - 1) = ((k - 1 : Nat) : Int) := by rw [IntKind.wrap_i64]; omega
              have hkm1 : ((k - 1 : Nat) : Int) < pl := by omega
              have e1 := d1 h0
              have hlt2 := hlt1 h0
              obtain ⟨pre, hpre⟩ : ∃ x, x = (P[k - 1]'(by omega)).1 := ⟨_, rfl⟩
              rw [← hpre] at e1 hlt2
              clear hpre d1 hlt1
              have hbl : Op.bytesLess key pre = false := by
                rw [Hp.bytesLess_lt]
                exact decide_eq_false (fun e => klt_irrefl _ (klt_trans e hlt2))
              have hbe : (key == pre) = false := by
                rw [beq_eq_false_iff_ne]
                exact fun e => klt_irrefl key (by rw [← e] at hlt2; exact hlt2)
              clear hlt2
              go_quiet (fail)
              go_wp2
              go_roundw
              case rel => exact ⟨k + 1, by omega, by go_num, HIN, (unhide HO2).trans (Only.drews _) (fun _ _ e => e)⟩
              case measure => simp [intOf]; omega
            · have hk0 : ¬ (0 : Int) < k := by omega
              clear d1 hlt1
              go_quiet (fail)
              go_wp2
              go_roundw
              case rel => exact ⟨k + 1, by omega, by go_num, HIN, (unhide HO2).trans (Only.drews _) (fun _ _ e => e)⟩
              case measure => simp [intOf]; omega
          · have hnq : ¬ P[k] ∈ Q := fun e => by rw [unhide HPAIR] at e; rw [(get_mem (unhide HSQ)).2 e] at hq; cases hq; exact hvv rfl
            have HNE := hide (unhide HBAD hnq)
            have hsn : ((str val).toList == (str v').toList) = false := by rw [str_beq]; exact decide_eq_false hvv
            clear hnq hq d1 hvv
            go_wp2_with (at_lookup; refine wpList_hitS rfl (.tmp 34) (.tmp 38) rfl rfl hm2 key v' rfl hkl (unhide HQN) ?_)
            go_quiet (fail)
            go_wp2
            go_ret
            exact ⟨by simp [unhide HNE], ((unhide HO1).trans (unhide HO2) (fun _ _ e => e)).trans (Only.drews _) (fun _ _ e => e)⟩
      · obtain rfl : pl = k := by omega
        have hPQ : P = Q := (sub_len Q P (unhide HSP) (unhide HSQ) (fun p hp => by
          obtain ⟨j, hj, rfl⟩ := List.getElem_of_mem hp
          exact unhide HQ j (by rw [unhide HPL]; exact hj) hj)).2 (unhide HLEN)
        have HPQ := hide hPQ
        clear hPQ
        go_wp2
        go_ret
        exact ⟨by simp [unhide HPQ], (unhide HO1).trans (unhide HO) (fun _ _ e => e)⟩
  · have hne : ¬ P = Q := fun e => hlen (by rw [e])
    have hleni : ((P.length : Int) == Q.length) = false := by simp; omega
    have HNE := hide hne
    obtain ⟨pl, hpl⟩ : ∃ pl, pl = P.length := ⟨_, rfl⟩
    obtain ⟨ql, hql⟩ : ∃ ql, ql = Q.length := ⟨_, rfl⟩
    rw [← hpl, ← hql] at hleni
    rw [← hpl]
    have HQL := hide hql
    clear hlen hne hpl hql
    go_wp2_with (first
      | (at_len; refine wpList_mlen rfl (.tmp 15) 47 9 rfl Try.underlying47 rfl hm1 ?_; rw [← unhide HQL]))
    go_ret
    exact ⟨by simp [unhide HNE], unhide HO1⟩
end St
end Go.Proofs.Ytmcobkcnpnfobaa

namespace Go.Proofs.Ytmcobkcnpnfobaa
open Go.RowKit
set_option linter.unusedSimpArgs false
set_option linter.unusedVariables false
namespace St

/-- a store that does not fall, and what it should have, behind k rounds -/
structure AgAt (w wr : World) (B sb : Nat) (X : Nat → Prop) (mb : Nat) (s : LD) (P : Prs) (u k : Nat) : Prop where
  st : Stt w wr B sb X s P u (5 * k)
  good : Good s P u k k (5 * k)
  calm : Calm s.d
  ok : okL (25 - k) s
  map : MapS wr mb (5 * k) P
  off : ¬ X mb
  short : Short P

theorem AgAt.u_le {w wr : World} {B sb mb u k : Nat} {X : Nat → Prop} {s : LD} {P : Prs} (h : AgAt w wr B sb X mb s P u k) : u ≤ k := by
  obtain ⟨_, _, _, _, _, hu, hm, _⟩ := h.good
  omega

theorem lists1 {w1 : World} {v1 : Value} {c1 : List Chg} {w0 : World} (h1 : HasC (fun k => w0.heap.size ≤ k) w1 v1 c1) (o0 : w0.heap.size ≤ w1.heap.size) :
    HasCC (fun k => w0.heap.size ≤ k) (w1.alloc (.cells #[v1] 33)) (.slice (some ⟨w1.heap.size, 0, none⟩) 1 1) [c1] :=
  hasCC_lit [v1] [c1] (heap_alloc_new w1 _) ⟨h1.same ((Only.refl _ _).alloc _), trivial⟩ o0 (by simp)

set_option maxHeartbeats 4000000 in
set_option maxRecDepth 100000 in
theorem storeAgain_any (n : Int) (lv : Value) (m : Nat) (X : Nat → St5) (w : World) (hX : Steps5 w lv m X) :
    Calls Try.prog 7 #[.int .i64 n, lv] w fun e w' => e = .returned (.bool true) ∧ Only (fun _ => False) w w' := by
  obtain ⟨lo, lc, hls, hlm, hcm, hcells⟩ := hX.shape
  subst hls
  have HEACH := hide hX.each
  have HCELLS := hide hcells
  have hmm := @run_makeMap Try.prog
  have hmx : (m : Int) < 9223372036854775808 := by unfold maxLen at hcm; omega
  clear hX hcells
  obtain ⟨q, hq⟩ := Int.eq_ofNat_of_zero_le (Int.emod_nonneg n (by decide : (40 : Int) ≠ 0))
  have hq2 := Int.emod_lt_of_pos n (by decide : (0 : Int) < 40)
  have HQ := hide hq
  rw [hq] at hq2
  obtain ⟨N, hN⟩ : ∃ N, N = 8 + q := ⟨_, rfl⟩
  have HN8 : Hid ((8 : Int) + q = (N : Int)) := by show (8 : Int) + q = (N : Int); omega
  have hN8 : 8 ≤ N := by omega
  have hN37 : N ≤ 47 := by omega
  clear hq hN
  go_enter Try.func7, Try.ntmps7
  go_wp2_with fail
  refine (pick_any n 40 w (by decide) (by decide)).mono ?_
  rintro e w ⟨rfl, rfl⟩
  rw [unhide HQ]
  go_wp2_with fail
  rw [unhide HN8]
  refine (dks_new N hN8 (by omega) w w (Only.refl _ _)).mono ?_
  rintro e w1 ⟨B, F, rfl, hd, hF, o1⟩
  have HOP := hide (stt_open (s := ⟨⟨Wal.Hd.zero, 0, false⟩, Dk.new N⟩) hd (by show (Dk.new N).works ≤ _; simp [Dk.new]) (good_new N hN8 (by omega)) (by decide) (by decide))
  clear hd o1 hF
  go_wp2_with fail
  refine (unhide HOP).mono ?_
  rintro e w2 ⟨sb0, X2, rfl, hs, hX2, o2⟩
  have HS := hide hs
  clear hs o2 HOP hX2
  go_wp2_with fail
  refine (known_any w2).mono ?_
  rintro e w3 ⟨rfl, o3⟩
  have HS3 := hide ((unhide HS).same o3)
  have HF3 : Hid (AgAt w (w3.alloc (.map #[] 0)) B sb0 X2 w3.heap.size ⟨⟨Wal.Hd.zero, 0, false⟩, Dk.new N⟩ [] 0 0) := ⟨(unhide HS3).same ((Only.refl _ _).alloc _), good_new N hN8 (by omega), ⟨rfl, rfl⟩, ⟨by simp [Dk.new], by simp [Dk.new, Dk.half]; omega⟩, mapS_made w3, fun e => by have := ((unhide HS3).lt _ e).2; omega, fun p hp => by cases hp⟩
  clear HS o3 HS3
  go_wp2_with fail
  go_loopw [7, 9, 10, 11, 12, 13, 14, 15] (fun a b i _ _ _ _ _ wr => ∃ k sb X mb s P u, k ≤ m ∧ k ≤ 25 ∧ i = .int .i64 k ∧ a = .pointer (some ⟨sb, 0, none⟩) ∧ b = .map (some mb) ∧ AgAt w wr B sb X mb s P u k) (fun _ _ i _ _ _ _ _ _ => 25 - (intOf i).toNat)
  case atStart => exact ⟨0, sb0, X2, _, _, [], 0, Nat.zero_le _, by decide, rfl, rfl, rfl, unhide HF3⟩
  case round =>
    obtain ⟨k, sb, Xr, mb, s, P, u, hkm, hk25, rfl, rfl, rfl, hfa⟩ := hrel
    have HFA := hide hfa
    have HON := hide hfa.st.only
    clear hfa HF3
    by_cases hlt : k < m
    · by_cases hl25 : k < 25
      · have hli : (k : Int) < m := by omega
        have hl25i : (k : Int) < 25 := by omega
        obtain ⟨bb, off, hao, hbw, hcs⟩ := unhide HCELLS (by omega)
        subst hao
        obtain ⟨x0, x1, x2, x3, x4⟩ := hcs k hlt
        have HX1 := hide x1
        have y2 := (unhide HON).cell x2 (fun h => h)
        have hbr : bb < wr.heap.size := Nat.lt_of_lt_of_le hbw (unhide HON).size
        have HST := hide ((unhide HEACH k hlt).same (unhide HON))
        generalize X k = st at *
        obtain ⟨a2, a2c, ha2, _⟩ := (unhide HST).l.shape
        have HL := hide (list_any (unhide HST).l 5 (by decide))
        have hnum := (unhide HST).num
        unfold I64 at hnum
        rw [ha2] at y2 HL
        clear x0 x1 x2 x3 x4 hcs ha2
        go_wp2_with fail
        refine (unhide HL).mono ?_
        rintro e w4 ⟨v4, c4, rfl, hr4, hl4, hk4, o4⟩
        have HC4 : Hid (HasC (fun j => wr.heap.size ≤ j) w4 v4 c4) := hr4.hasC (fun j hj => hj)
        have HO4 := hide o4
        have HK4 := hide hk4
        obtain ⟨v4o, v4c, hv4, _⟩ := (unhide HC4).shape
        subst hv4
        clear hr4 hk4
        have HCC := hide (lists1 (unhide HC4) (unhide HO4).size)
        have o6 : Only (fun _ => False) wr (w4.alloc (.cells #[.slice v4o c4.length v4c] 33)) := o4.alloc _
        clear o4 y2
        go_wp2_with fail
        generalize w4.alloc (.cells #[.slice v4o c4.length v4c] 33) = w6 at *
        have hlt6 := (unhide HFA).st.lt
        have HS6 := hide ((unhide HFA).st.same o6)
        have HM6 := hide ((unhide HFA).map.same o6)
        have HOF := hide (unhide HFA).off
        have HX6 : Hid (HasCC (fun j => ¬ Xr j) w6 (.slice (some ⟨w4.heap.size, 0, none⟩) 1 1) [c4]) := (unhide HCC).mono (fun j _ hj e => by have := (hlt6 j e).2; omega)
        have htot : tot [c4] ≤ 5 := by simp [tot]; omega
        have huk := (unhide HFA).u_le
        have hok2 : okL [c4].length s := ⟨by have := (unhide HFA).ok.1; simp; omega, (unhide HFA).ok.2⟩
        have HCO := hide (stt_commit (unhide HS6) _ [c4] (unhide HX6) (by omega) (by simp; omega) hok2)
        have hE := each_good [c4] (unhide HFA).good (by simp; omega)
        have hC := each_calm [c4] (unhide HFA).good (unhide HFA).calm (by simp; omega)
        have hK := each_ok w [c4] (s := s) (P := P) (u := u) (25 - (k + 1)) ⟨by have := (unhide HFA).ok.1; simp; omega, (unhide HFA).ok.2⟩
        have HSH := hide (unhide HFA).short
        obtain ⟨qq, hqq⟩ : ∃ qq, qq = keepEachS apL reL [c4] s P u := ⟨_, rfl⟩
        rw [← hqq] at HCO hE hC hK
        have HG8 : Hid (Good qq.2.s qq.2.P qq.2.u (k + 1) (k + 1) (5 * (k + 1))) := by
          rcases hE.out with ⟨_, _, c⟩ | ⟨_, _, c⟩ | ⟨a, _⟩
          · exact c.mono (by simp) (by simp) (by omega)
          · exact c.mono (by simp) (by simp) (by omega)
          · rcases hC.c.e with e | e | e <;> (rw [e] at a; cases a)
        have HCA := hide hC.c.calm
        have HK8 := hide hK
        have HYES : Hid (qq.2.e = 0 → qq.1 = 1 ∧ qq.2.P = done P c4) := by
          intro e0
          rcases hE.out with ⟨_, b, _⟩ | ⟨a, _, _⟩ | ⟨a, _⟩
          · refine ⟨b, ?_⟩
            rw [hE.P, b]
            rfl
          · rcases a with a | a <;> (rw [a] at e0; cases e0)
          · rw [a] at e0; cases e0
        have HNO : Hid (¬ qq.2.e = 0 → qq.2.P = P) := by
          intro e0
          rcases hE.out with ⟨a, _, _⟩ | ⟨_, b, _⟩ | ⟨_, b, _⟩
          · exact absurd a e0
          · have b0 : qq.1 = 0 := by simp at b; omega
            rw [hE.P, b0]
            rfl
          · have b0 : qq.1 = 0 := by simp at b; omega
            rw [hE.P, b0]
            rfl
        clear hE hC hK hqq hok2 hlt6
        have ho6s := o6.size
        have HO6 := hide o6
        clear o6
        refine (unhide HCO).mono ?_
        rintro e w8 ⟨rfl, hw8⟩
        obtain ⟨X8, h8, hX8⟩ := hw8.now
        have HS8 : Hid (Stt w w8 B sb X8 qq.2.s qq.2.P qq.2.u (5 * (k + 1))) := h8.more (by omega)
        have HM8 := hide ((unhide HM6).only hw8.only (unhide HOF))
        have HOF8 : Hid (¬ X8 mb) := fun e => by
          rcases hX8 mb e with e | e
          · exact unhide HOF e
          · have := (unhide HM6).lt
            omega
        have HX8 := hide ((unhide HX6).only hw8.only (fun _ _ h => h))
        clear hw8 h8 hX8 HX6 HM6 HS6 HCO HFA HOF HL HC4 HO4 HCC HO6
        by_cases he : qq.2.e = 0
        · obtain ⟨hk1, hP1⟩ := unhide HYES he
          have HP1 := hide hP1
          rw [he, hk1]
          obtain ⟨xb, xoff, xv, hxo, hxc, hxC⟩ := (unhide HX8).at 0 (by simp)
          cases hxo
          have hxC' : HasC (fun j => ¬ Xr j) w8 xv c4 := hxC
          obtain ⟨xo, xcp, hxv, _⟩ := hxC'.shape
          subst hxv
          have HWI := hide (with_any (unhide HM8) _ c4 hxC' (by omega) (by omega) (fun c hc => ⟨by have := ((unhide HK4) c hc).1; unfold maxLen at this; omega, by have := ((unhide HK4) c hc).2; omega⟩))
          have HSH8 : Hid (Short qq.2.P) := by
            show Short qq.2.P
            rw [hP1]
            exact (unhide HSH).done c4 (fun c hc => by have := ((unhide HK4) c hc).2; omega)
          clear he hk1 hP1 hxC hxC' HYES HNO
          go_wp2_with fail
          refine (unhide HWI).mono ?_
          rintro e w10 ⟨rfl, hm10, o10⟩
          have HM10 : Hid (MapS w10 w8.heap.size (5 * (k + 1)) qq.2.P) := by
            show MapS w10 w8.heap.size (5 * (k + 1)) qq.2.P
            rw [unhide HP1]
            exact hm10.more (by omega)
          have HS10 := hide ((unhide HS8).same o10)
          have HOF10 : Hid (¬ X8 w8.heap.size) := fun e => by have := ((unhide HS8).lt _ e).2; omega
          generalize w8.heap.size = mb2 at *
          clear hm10 o10 HS8 HM8 HOF8 HWI HX8 hxc
          obtain ⟨F10, hd10, hF10⟩ := (unhide HS10).dks
          have HFX := hide hF10
          have HOP := hide (stt_open hd10 (by have := (unhide HK8).1; omega) (unhide HG8) (by omega) (by omega))
          clear hd10 hF10
          go_wp2_with fail
          refine (unhide HOP).mono ?_
          rintro e w11 ⟨sb2, X11, rfl, hs11, hX11, o11⟩
          have HS11 := hide hs11
          have HS11o := hide ((unhide HS10).same o11)
          have HM11 := hide ((unhide HM10).same o11)
          have HOF11 : Hid (¬ X11 mb2) := fun e => by
            rcases hX11 mb2 e with e | e
            · exact unhide HOF10 (unhide HFX _ e)
            · have := (unhide HM10).lt
              omega
          have HIS := hide (fun (W : World) (o : Only (fun _ => False) w11 W) => is_any ((unhide HS11).same o) ((unhide HM11).same o) (by omega) (unhide HSH8))
          rw [decide_eq_true rfl] at HIS
          clear hs11 hX11 o11 HOP HM10 HS10
          go_wp2_with fail
          refine (unhide HIS _ (Only.refl _ _)).mono ?_
          rintro e w12 ⟨rfl, o12⟩
          have HS12 := hide ((unhide HS11).same o12)
          have HS12o := hide ((unhide HS11o).same o12)
          have HUA := hide (stt_units (unhide HS12))
          have HUB := hide (stt_units (unhide HS12o))
          have HNEW : Hid (AgAt w w12 B sb2 X11 mb2 qq.2.s qq.2.P qq.2.u (k + 1)) := ⟨unhide HS12, unhide HG8, unhide HCA, unhide HK8, (unhide HM11).same o12, unhide HOF11, unhide HSH8⟩
          have HOLD : Hid (AgAt w w12 B sb X8 mb2 qq.2.s qq.2.P qq.2.u (k + 1)) := ⟨unhide HS12o, unhide HG8, unhide HCA, unhide HK8, (unhide HM11).same o12, unhide HOF10, unhide HSH8⟩
          have HCE := hide ((unhide HS12).only)
          clear o12 HS11 HS11o HM11 HOF11 HS12 HS12o HOF10
          have y1 := (unhide HCE).cell (unhide HX1) (fun h => h)
          go_wp2_with fail
          refine (unhide HUA).mono ?_
          rintro e w12 ⟨rfl, rfl⟩
          go_wp2_with fail
          refine (unhide HUB).mono ?_
          rintro e w12 ⟨rfl, rfl⟩
          by_cases hp : st.num.tmod 2 = 0
          · have HPB : Hid ((st.num.tmod 2 == 0) = true) := by show (st.num.tmod 2 == 0) = true; simp [hp]
            clear hp
            go_upto_if 108 with fail
            rw [unhide HPB]
            go_wp2
            go_roundw
            case rel => exact ⟨k + 1, sb2, X11, mb2, _, _, _, by omega, by omega, by go_num, rfl, rfl, unhide HNEW⟩
            case measure => simp [intOf]; omega
          · have HPB : Hid ((st.num.tmod 2 == 0) = false) := by show (st.num.tmod 2 == 0) = false; simp [hp]
            clear hp
            go_upto_if 108 with fail
            rw [unhide HPB]
            go_wp2
            go_roundw
            case rel => exact ⟨k + 1, sb, X8, mb2, _, _, _, by omega, by omega, by go_num, rfl, rfl, unhide HOLD⟩
            case measure => simp [intOf]; omega
        · have heb : (qq.2.e == 0) = false := by simp [he]
          have hP1 := unhide HNO he
          have HSH8 : Hid (Short qq.2.P) := by
            show Short qq.2.P
            rw [hP1]
            exact unhide HSH
          have HM10 : Hid (MapS w8 mb (5 * (k + 1)) qq.2.P) := by
            show MapS w8 mb (5 * (k + 1)) qq.2.P
            rw [hP1]
            exact (unhide HM8).more (by omega)
          have HS10 := HS8
          have HOF10 := HOF8
          clear HYES HNO HX8 HM8 HS8 HOF8 hP1
          generalize qq.2.e = ee at *
          generalize w8 = w10 at *
          generalize mb = mb2 at *
          clear he
          obtain ⟨F10, hd10, hF10⟩ := (unhide HS10).dks
          have HFX := hide hF10
          have HOP := hide (stt_open hd10 (by have := (unhide HK8).1; omega) (unhide HG8) (by omega) (by omega))
          clear hd10 hF10
          go_wp2_with fail
          refine (unhide HOP).mono ?_
          rintro e w11 ⟨sb2, X11, rfl, hs11, hX11, o11⟩
          have HS11 := hide hs11
          have HS11o := hide ((unhide HS10).same o11)
          have HM11 := hide ((unhide HM10).same o11)
          have HOF11 : Hid (¬ X11 mb2) := fun e => by
            rcases hX11 mb2 e with e | e
            · exact unhide HOF10 (unhide HFX _ e)
            · have := (unhide HM10).lt
              omega
          have HIS := hide (fun (W : World) (o : Only (fun _ => False) w11 W) => is_any ((unhide HS11).same o) ((unhide HM11).same o) (by omega) (unhide HSH8))
          rw [decide_eq_true rfl] at HIS
          clear hs11 hX11 o11 HOP HM10 HS10
          go_wp2_with fail
          refine (unhide HIS _ (Only.refl _ _)).mono ?_
          rintro e w12 ⟨rfl, o12⟩
          have HS12 := hide ((unhide HS11).same o12)
          have HS12o := hide ((unhide HS11o).same o12)
          have HUA := hide (stt_units (unhide HS12))
          have HUB := hide (stt_units (unhide HS12o))
          have HNEW : Hid (AgAt w w12 B sb2 X11 mb2 qq.2.s qq.2.P qq.2.u (k + 1)) := ⟨unhide HS12, unhide HG8, unhide HCA, unhide HK8, (unhide HM11).same o12, unhide HOF11, unhide HSH8⟩
          have HOLD : Hid (AgAt w w12 B sb X8 mb2 qq.2.s qq.2.P qq.2.u (k + 1)) := ⟨unhide HS12o, unhide HG8, unhide HCA, unhide HK8, (unhide HM11).same o12, unhide HOF10, unhide HSH8⟩
          have HCE := hide ((unhide HS12).only)
          clear o12 HS11 HS11o HM11 HOF11 HS12 HS12o HOF10
          have y1 := (unhide HCE).cell (unhide HX1) (fun h => h)
          go_wp2_with fail
          refine (unhide HUA).mono ?_
          rintro e w12 ⟨rfl, rfl⟩
          go_wp2_with fail
          refine (unhide HUB).mono ?_
          rintro e w12 ⟨rfl, rfl⟩
          by_cases hp : st.num.tmod 2 = 0
          · have HPB : Hid ((st.num.tmod 2 == 0) = true) := by show (st.num.tmod 2 == 0) = true; simp [hp]
            clear hp
            go_upto_if 108 with fail
            rw [unhide HPB]
            go_wp2
            go_roundw
            case rel => exact ⟨k + 1, sb2, X11, mb2, _, _, _, by omega, by omega, by go_num, rfl, rfl, unhide HNEW⟩
            case measure => simp [intOf]; omega
          · have HPB : Hid ((st.num.tmod 2 == 0) = false) := by show (st.num.tmod 2 == 0) = false; simp [hp]
            clear hp
            go_upto_if 108 with fail
            rw [unhide HPB]
            go_wp2
            go_roundw
            case rel => exact ⟨k + 1, sb, X8, mb2, _, _, _, by omega, by omega, by go_num, rfl, rfl, unhide HOLD⟩
            case measure => simp [intOf]; omega
      · have hli : (k : Int) < m := by omega
        have hk25' : (k : Int) = 25 := by omega
        rw [hk25'] at hli
        rw [hk25']
        clear hk25' hl25 hlt hk25 hkm
        go_wp2
        go_ret
        exact ⟨rfl, unhide HON⟩
    · go_wp2
      go_ret
      exact ⟨rfl, unhide HON⟩
end St
end Go.Proofs.Ytmcobkcnpnfobaa

namespace Go.Proofs.Ytmcobkcnpnfobaa
open Go.RowKit
set_option linter.unusedSimpArgs false
set_option linter.unusedVariables false
namespace St

/-- a store, and what it should have, behind k rounds -/
structure WhAt (w wr : World) (B sb : Nat) (X : Nat → Prop) (mb : Nat) (s : LD) (P : Prs) (u k : Nat) : Prop where
  st : Stt w wr B sb X s P u (8 * k)
  good : Good s P u (2 * k) (2 * k) (8 * k)
  ok : okL (2 * (30 - k)) s
  map : MapS wr mb (13 * k) P
  off : ¬ X mb
  short : Short P

theorem WhAt.u_le {w wr : World} {B sb mb u k : Nat} {X : Nat → Prop} {s : LD} {P : Prs} (h : WhAt w wr B sb X mb s P u k) : u ≤ 2 * k := by
  obtain ⟨_, _, _, _, _, hu, hm, _⟩ := h.good
  omega
theorem WhAt.same {w wr wx : World} {B sb mb u k : Nat} {X : Nat → Prop} {s : LD} {P : Prs} (h : WhAt w wr B sb X mb s P u k) (ho : Only (fun _ => False) wr wx) : WhAt w wx B sb X mb s P u k :=
  ⟨h.st.same ho, h.good, h.ok, h.map.same ho, h.off, h.short⟩
/-- the fuse is set -/
theorem WhAt.fused {w wr wx : World} {B sb mb u k : Nat} {X : Nat → Prop} {s : LD} {P : Prs} (h : WhAt w wr B sb X mb s P u k) (m : Int) (h1 : -9223372036854775808 ≤ m) (h2 : m ≤ 9223372036854775807) (hw : TWent w wr wx B sb X ⟨s.l, s.d.fused m⟩ P u (8 * k)) : ∃ X', WhAt w wx B sb X' mb ⟨s.l, s.d.fused m⟩ P u k ∧ ∀ j, X' j → X j ∨ wr.heap.size ≤ j := by
  obtain ⟨X', hs, hX⟩ := hw.now
  refine ⟨X', ⟨hs, h.good.fused m h1 h2, h.ok, h.map.only hw.only h.off, fun e => ?_, h.short⟩, hX⟩
  rcases hX mb e with e | e
  · exact h.off e
  · have := h.map.lt
    omega

theorem short_fold : ∀ (ls : List (List Chg)) {P : Prs}, Short P → (∀ l ∈ ls, ∀ c ∈ l, c.value.length ≤ 1000) → Short (ls.foldl done P)
  | [], _, h, _ => h
  | l :: ls, P, h, hv => short_fold ls (P := done P l) (h.done l (hv l (by simp))) (fun x hx => hv x (by simp [hx]))

/-- behind the fuse -/
def CutF (w wx : World) (B sb mb : Nat) (P : Prs) (u k hb : Nat) (o : Obj) : Prop := ∃ X s, WhAt w wx B sb X mb s P u k ∧ wx.heap[hb]? = some o ∧ ¬ X hb

/-- the pairs behind i units -/
def InAt (w8 wq : World) (X8 : Nat → Prop) (mb n : Nat) (P : Prs) (ls : List (List Chg)) (i : Nat) : Prop := MapS wq mb (n + tot (ls.take i)) ((ls.take i).foldl done P) ∧ ¬ X8 mb ∧ Only (fun _ => False) w8 wq

theorem tot_take_le (ls : List (List Chg)) (i : Nat) : tot (ls.take i) ≤ tot ls := by
  have h : tot (ls.take i ++ ls.drop i) = tot ls := by rw [List.take_append_drop]
  rw [tot_append] at h
  omega

set_option maxHeartbeats 4000000 in
set_option maxRecDepth 100000 in
theorem storeWhole_any (n : Int) (lv : Value) (m : Nat) (X : Nat → St5) (w : World) (hX : Steps5 w lv m X) :
    Calls Try.prog 4 #[.int .i64 n, lv] w fun e w' => e = .returned (.bool true) ∧ Only (fun _ => False) w w' := by
  obtain ⟨lo, lc, hls, hlm, hcm, hcells⟩ := hX.shape
  subst hls
  have HEACH := hide hX.each
  have HCELLS := hide hcells
  have hmm := @run_makeMap Try.prog
  have hmx : (m : Int) < 9223372036854775808 := by unfold maxLen at hcm; omega
  clear hX hcells
  obtain ⟨q, hq⟩ := Int.eq_ofNat_of_zero_le (Int.emod_nonneg n (by decide : (40 : Int) ≠ 0))
  have hq2 := Int.emod_lt_of_pos n (by decide : (0 : Int) < 40)
  have HQ := hide hq
  rw [hq] at hq2
  obtain ⟨N, hN⟩ : ∃ N, N = 8 + q := ⟨_, rfl⟩
  have HN8 : Hid ((8 : Int) + q = (N : Int)) := by show (8 : Int) + q = (N : Int); omega
  have hN8 : 8 ≤ N := by omega
  have hN37 : N ≤ 47 := by omega
  clear hq hN
  go_enter Try.func4, Try.ntmps4
  go_wp2_with fail
  refine (pick_any n 40 w (by decide) (by decide)).mono ?_
  rintro e w ⟨rfl, rfl⟩
  rw [unhide HQ]
  go_wp2_with fail
  rw [unhide HN8]
  refine (dks_new N hN8 (by omega) w w (Only.refl _ _)).mono ?_
  rintro e w1 ⟨B, F, rfl, hd, hF, o1⟩
  have HOP := hide (stt_open (s := ⟨⟨Wal.Hd.zero, 0, false⟩, Dk.new N⟩) hd (by show (Dk.new N).works ≤ _; simp [Dk.new]) (good_new N hN8 (by omega)) (by decide) (by decide))
  clear hd o1 hF
  go_wp2_with fail
  refine (unhide HOP).mono ?_
  rintro e w2 ⟨sb0, X2, rfl, hs, hX2, o2⟩
  have HS := hide hs
  clear hs o2 HOP hX2
  go_wp2_with fail
  refine (known_any w2).mono ?_
  rintro e w3 ⟨rfl, o3⟩
  have HS3 := hide ((unhide HS).same o3)
  have HF3 : Hid (WhAt w (w3.alloc (.map #[] 0)) B sb0 X2 w3.heap.size ⟨⟨Wal.Hd.zero, 0, false⟩, Dk.new N⟩ [] 0 0) := ⟨(unhide HS3).same ((Only.refl _ _).alloc _), good_new N hN8 (by omega), ⟨by simp [Dk.new], by simp [Dk.new, Dk.half]; omega⟩, mapS_made w3, fun e => by have := ((unhide HS3).lt _ e).2; omega, fun p hp => by cases hp⟩
  clear HS o3 HS3
  go_wp2_with fail
  go_loopw [7, 9, 10, 11, 12, 13, 14, 15, 16, 17] (fun a b i _ _ _ _ _ _ _ wr => ∃ k sb X mb s P u, k ≤ m ∧ k ≤ 30 ∧ i = .int .i64 k ∧ a = .pointer (some ⟨sb, 0, none⟩) ∧ b = .map (some mb) ∧ WhAt w wr B sb X mb s P u k) (fun _ _ i _ _ _ _ _ _ _ _ => 30 - (intOf i).toNat)
  case atStart => exact ⟨0, sb0, X2, _, _, [], 0, Nat.zero_le _, by decide, rfl, rfl, rfl, unhide HF3⟩
  case round =>
    obtain ⟨k, sb, Xr, mb, s, P, u, hkm, hk30, rfl, rfl, rfl, hfa⟩ := hrel
    have HFA := hide hfa
    have HON := hide hfa.st.only
    clear hfa HF3
    by_cases hlt : k < m
    · by_cases hl30 : k < 30
      · have hli : (k : Int) < m := by omega
        have hl30i : (k : Int) < 30 := by omega
        obtain ⟨bb, off, hao, hbw, hcs⟩ := unhide HCELLS (by omega)
        subst hao
        obtain ⟨x0, x1, x2, x3, x4⟩ := hcs k hlt
        have y0 := (unhide HON).cell x0 (fun h => h)
        have y1 := (unhide HON).cell x1 (fun h => h)
        have y2 := (unhide HON).cell x2 (fun h => h)
        have y3 := (unhide HON).cell x3 (fun h => h)
        have y4 := (unhide HON).cell x4 (fun h => h)
        have HST := hide (unhide HEACH k hlt)
        generalize X k = st at *
        obtain ⟨a2, a2c, ha2, _⟩ := (unhide HST).l.shape
        obtain ⟨a3, a3c, ha3, _⟩ := (unhide HST).m.shape
        obtain ⟨a4, a4c, ha4, _⟩ := (unhide HST).fates.shape
        rw [List.length_map] at ha4
        have HA4 := hide ha4
        have HL := hide (fun (W : World) (o : Only (fun _ => False) w W) => list_any ((unhide HST).l.same o) 5 (by decide))
        have HM := hide (fun (W : World) (o : Only (fun _ => False) w W) => list_any ((unhide HST).m.same o) 3 (by decide))
        rw [ha2] at y2 HL
        rw [ha3] at y3 HM
        rw [ha4] at y4
        have hnum := (unhide HST).num
        unfold I64 at hnum
        clear x0 x1 x2 x3 x4 hcs ha2 ha3 ha4
        go_upto_if 63 with fail
        have hB5 := heap_alloc_new wr (.cells #[.int .i64 st.what, .int .i64 st.num, .slice a2 st.lm a2c, .slice a3 st.mm a3c, .slice a4 st.fs.length a4c] 51)
        have o5 := (Only.refl (fun _ => False) wr).alloc (.cells #[.int .i64 st.what, .int .i64 st.num, .slice a2 st.lm a2c, .slice a3 st.mm a3c, .slice a4 st.fs.length a4c] 51)
        generalize wr.alloc (.cells #[.int .i64 st.what, .int .i64 st.num, .slice a2 st.lm a2c, .slice a3 st.mm a3c, .slice a4 st.fs.length a4c] 51) = w5 at *
        have hb5 : wr.heap.size < w5.heap.size := lt_of_block hB5
        have hb5F : ¬ Xr wr.heap.size := fun e => by have := ((unhide HFA).st.lt _ e).2; omega
        have HFA5 := hide ((unhide HFA).same o5)
        have HB5 := hide hB5
        clear hB5 o5 HFA HON y0 y1 y2 y3 y4
        obtain ⟨hb, hhb⟩ : ∃ hb, hb = wr.heap.size := ⟨_, rfl⟩
        rw [← hhb] at hb5 hb5F HB5 ⊢
        clear hhb
        go_cut [69] (fun s69 wx => CutF w wx B sb mb P u k hb (.cells #[.int .i64 st.what, .int .i64 st.num, .slice a2 st.lm a2c, .slice a3 st.mm a3c, .slice a4 st.fs.length a4c] 51))
        case first =>
          obtain ⟨c0, c1, c2, c3, c4⟩ := cells_5 (unhide HB5)
          by_cases h4 : st.num.tmod 3 = 0
          · have h4b : (st.num.tmod 3 == 0) = true := by simp [h4]
            obtain ⟨pq, hpq⟩ := Int.eq_ofNat_of_zero_le (Int.emod_nonneg (st.num.tdiv 3) (by decide : (14 : Int) ≠ 0))
            have HPQ := hide hpq
            have hpq2 := Int.emod_lt_of_pos (st.num.tdiv 3) (by decide : (0 : Int) < 14)
            rw [hpq] at hpq2
            rw [h4b]
            clear h4 hpq h4b
            go_wp2_with fail
            refine (pick_any (st.num.tdiv 3) 14 w5 (by decide) (by decide)).mono ?_
            rintro e w5 ⟨rfl, rfl⟩
            rw [unhide HPQ]
            have HFU := hide (stt_fuse (unhide HFA5).st pq (by omega) (by omega))
            go_wp2_with fail
            refine (unhide HFU).mono ?_
            rintro e w6 ⟨rfl, hw6⟩
            obtain ⟨X6, h6, hX6⟩ := (unhide HFA5).fused pq (by omega) (by omega) hw6
            have hB6 := hw6.only.heap (unhide HB5) hb5F
            have hF6 : ¬ X6 hb := fun e => by
              rcases hX6 hb e with e | e
              · exact hb5F e
              · omega
            have HALL := hide (And.intro h6 (And.intro hB6 hF6))
            clear h6 hB6 hF6 hw6 hX6
            go_wp2_with fail
            go_meet
            case rel => exact ⟨X6, _, (unhide HALL).1, (unhide HALL).2.1, (unhide HALL).2.2⟩
          · have h4b : (st.num.tmod 3 == 0) = false := by simp [h4]
            rw [h4b]
            clear h4 h4b
            go_wp2_with fail
            go_meet
            case rel => exact ⟨Xr, s, unhide HFA5, unhide HB5, hb5F⟩
        case rest =>
          obtain ⟨X6, s6, hw6, hB6, hF6⟩ := hcut
          have HFA := hide hw6
          have HB6 := hide hB6
          have hb6 := lt_of_block hB6
          have HONc := hide hw6.st.only
          have y2 := (cells_5 hB6).2.2.1
          have y3 := (cells_5 hB6).2.2.2.1
          clear hw6 hB6 HFA5 HB5 hb5F hb5 hnum
          go_wp2_with fail
          refine wp_region_held_drew (S := (fun w' => w'.cell? ⟨hb, 2, none⟩ = some (.slice a2 st.lm a2c) ∧ w'.cell? ⟨hb, 3, none⟩ = some (.slice a3 st.mm a3c))) (by kernel_rfl) (⟨y2, y3⟩) (fun hHeld => ?_)
          refine wpAnyH_take (i := 0) (v := ?v113) rfl (by kernel_rfl) (by kernel_rfl) (by kernel_rfl) (fun _ _ _ h => h) (Or.inl ⟨by rfl, ?hy113⟩) (by assumption) ?rest113
          case hy113 =>
            intro w hSw
            go_simp
            try with_reducible rfl
          try simp only [Act.put, List.setIfInBounds_toArray, List.set_cons_zero, List.set_cons_succ, List.getElem_toArray, List.getElem_cons_succ, List.getElem_cons_zero]
          refine wpAnyH_take (i := 1) (v := ?v114) rfl (by kernel_rfl) (by kernel_rfl) (by kernel_rfl) (fun _ _ _ h => h) (Or.inl ⟨by rfl, ?hy114⟩) (by assumption) ?rest114
          case hy114 =>
            intro w hSw
            (obtain ⟨q0, q1⟩ := hSw; go_simp; try with_reducible rfl)
          try simp only [Act.put, List.setIfInBounds_toArray, List.set_cons_zero, List.set_cons_succ, List.getElem_toArray, List.getElem_cons_succ, List.getElem_cons_zero]
          refine wpAnyH_take (i := 3) (v := ?v115) rfl (by kernel_rfl) (by kernel_rfl) (by kernel_rfl) (fun _ _ _ h => h) (Or.inl ⟨by rfl, ?hy115⟩) (by assumption) ?rest115
          case hy115 =>
            intro w hSw
            go_simp
            try with_reducible rfl
          try simp only [Act.put, List.setIfInBounds_toArray, List.set_cons_zero, List.set_cons_succ, List.getElem_toArray, List.getElem_cons_succ, List.getElem_cons_zero]
          refine wpAnyH_take (i := 4) (v := ?v116) rfl (by kernel_rfl) (by kernel_rfl) (by kernel_rfl) (fun _ _ _ h => h) (Or.inl ⟨by rfl, ?hy116⟩) (by assumption) ?rest116
          case hy116 =>
            intro w hSw
            (obtain ⟨q0, q1⟩ := hSw; go_simp; try with_reducible rfl)
          try simp only [Act.put, List.setIfInBounds_toArray, List.set_cons_zero, List.set_cons_succ, List.getElem_toArray, List.getElem_cons_succ, List.getElem_cons_zero]
          refine wpAnyH_ready (rs := [2]) (by kernel_rfl) (by simp) ?_
          refine AllReadyH.cons rfl (fun K hK => ?_) AllReadyH.nil
          go_simp
          go_wp2_with fail; refine (unhide HL _ ((unhide HONc).drew)).mono ?_; rintro e w7 ⟨v4, c4, rfl, hr4, hl4, hk4, o4d⟩; have o4 : Only (fun _ => False) wc w7 := ((Only.refl _ _).drew).trans o4d (fun _ _ e => e)
          refine hK.out _ _ (⟨o4.cell y2 (fun e => e), o4.cell y3 (fun e => e)⟩) (fun hHeld => ?_)
          clear hK K
          try simp only [Act.put, List.setIfInBounds_toArray, List.set_cons_zero, List.set_cons_succ, List.getElem_toArray, List.getElem_cons_succ, List.getElem_cons_zero]
          have HC4 : Hid (HasC (fun j => wc.heap.size ≤ j) w7 v4 c4) := hr4.hasC (fun j hj => hj)
          have HO4 := hide o4
          have HON4 := hide ((unhide HONc).trans o4 (fun _ _ e => e))
          have HK4 := hide hk4
          obtain ⟨v4o, v4c, hv4, _⟩ := (unhide HC4).shape
          subst hv4
          clear hr4 o4d hk4
          refine wpAnyH_ready (rs := [5]) (by kernel_rfl) (by simp) ?_
          refine AllReadyH.cons rfl (fun K hK => ?_) AllReadyH.nil
          go_simp
          go_wp2_with fail; refine (unhide HM _ (unhide HON4)).mono ?_; rintro e w8 ⟨v5, c5, rfl, hr5, hl5, hk5, o5d⟩; have o5 : Only (fun _ => False) wc w8 := o4.trans o5d (fun _ _ e => e)
          refine hK.out _ _ (⟨o5.cell y2 (fun e => e), o5.cell y3 (fun e => e)⟩) (fun hHeld => ?_)
          clear hK K
          try simp only [Act.put, List.setIfInBounds_toArray, List.set_cons_zero, List.set_cons_succ, List.getElem_toArray, List.getElem_cons_succ, List.getElem_cons_zero]
          have HC5 : Hid (HasC (fun j => wc.heap.size ≤ j) w8 v5 c5) := (hr5.hasC (fun j hj => hj)).mono (fun j _ (hj : w7.heap.size ≤ j) => by have := o4.size; omega)
          have HO5 := hide o5
          have HO45 := hide o5d
          have HK5 := hide hk5
          obtain ⟨v5o, v5c, hv5, _⟩ := (unhide HC5).shape
          subst hv5
          clear hr5 o5d o4 hk5
          have HCC := hide (lists2 (unhide HC4) (unhide HC5) (unhide HO45) (unhide HO5).size)
          have o6 : Only (fun _ => False) wc (w8.alloc (.cells #[.slice v4o c4.length v4c, .slice v5o c5.length v5c] 33)) := o5.alloc _
          refine wpAnyH_ready (rs := [6]) (by kernel_rfl) (by simp) ?_
          refine AllReadyH.cons rfl (fun K hK => ?_) AllReadyH.nil
          go_simp
          refine hK.out _ _ (⟨o6.cell y2 (fun e => e), o6.cell y3 (fun e => e)⟩) (fun hHeld => ?_)
          clear hK K
          try simp only [Act.put, List.setIfInBounds_toArray, List.set_cons_zero, List.set_cons_succ, List.getElem_toArray, List.getElem_cons_succ, List.getElem_cons_zero]
          generalize w8.alloc (.cells #[.slice v4o c4.length v4c, .slice v5o c5.length v5c] 33) = w9 at *
          refine wpAnyH_take (i := 7) (v := ?v117) rfl (by kernel_rfl) (by kernel_rfl) (by kernel_rfl) (fun _ _ _ h => h) (Or.inl ⟨by rfl, ?hy117⟩) (by assumption) ?rest117
          case hy117 =>
            intro w hSw
            go_simp
            try with_reducible rfl
          try simp only [Act.put, List.setIfInBounds_toArray, List.set_cons_zero, List.set_cons_succ, List.getElem_toArray, List.getElem_cons_succ, List.getElem_cons_zero]
          refine wpAnyH_done (by kernel_rfl) ?_ _
          have hlt6 := (unhide HFA).st.lt
          have HS6 := hide ((unhide HFA).st.same o6)
          have HM6 := hide ((unhide HFA).map.same o6)
          have HOF := hide (unhide HFA).off
          have HB9 := hide (o6.heap (unhide HB6) (fun e => e))
          have HX6 : Hid (HasCC (fun j => ¬ X6 j ∧ j < w9.heap.size) w9 (.slice (some ⟨w8.heap.size, 0, none⟩) 2 2) [c4, c5]) := (unhide HCC).mono (fun j hj hq => ⟨fun e => by have := (hlt6 j e).2; omega, hj⟩)
          have htot : tot [c4, c5] ≤ 8 := by simp [tot]; omega
          have huk := (unhide HFA).u_le
          have hok2 : okL [c4, c5].length s6 := ⟨by have := (unhide HFA).ok.1; simp; omega, (unhide HFA).ok.2⟩
          have HCO := hide (stt_commit (unhide HS6) _ [c4, c5] ((unhide HX6).mono (fun _ _ h => h.1)) (by omega) (by simp; omega) hok2)
          have hE := each_good [c4, c5] (unhide HFA).good (by simp; omega)
          have hK := each_ok w [c4, c5] (s := s6) (P := P) (u := u) (2 * (30 - (k + 1))) ⟨by have := (unhide HFA).ok.1; simp; omega, (unhide HFA).ok.2⟩
          have HSHT : Hid (∀ l ∈ [c4, c5], (∀ c ∈ l, c.key.length ≤ maxLen ∧ c.value.length ≤ 40) ∧ l.length ≤ 5) := by
            intro l hl
            simp only [List.mem_cons, List.not_mem_nil, or_false] at hl
            rcases hl with rfl | rfl
            · exact ⟨unhide HK4, by omega⟩
            · exact ⟨unhide HK5, by omega⟩
          have HSH := hide (unhide HFA).short
          obtain ⟨qq, hqq⟩ : ∃ qq, qq = keepEachS apL reL [c4, c5] s6 P u := ⟨_, rfl⟩
          rw [← hqq] at HCO hE hK
          have HEG := hide hE
          have HK8 := hide hK
          have hle2 : qq.1 ≤ 2 := by have := hE.le; simpa using this
          clear hE hK hqq hok2 hlt6 y2 y3 o5 hHeld HC4 HC5 HO4 HO5 HO45 HCC HL HM HK4 HK5 HON4 HB6 hb6
          have ho6s := o6.size
          clear o6
          go_wp2_with fail
          refine (unhide HCO).mono ?_
          rintro e w10 ⟨rfl, hw10⟩
          obtain ⟨X10, h10, hX10⟩ := hw10.now
          have HS10 : Hid (Stt w w10 B sb X10 qq.2.s qq.2.P qq.2.u (8 * (k + 1))) := h10.more (by omega)
          have HM10 := hide ((unhide HM6).only hw10.only (unhide HOF))
          have HB10 := hide (hw10.only.heap (unhide HB9) hF6)
          have HOF10 : Hid (¬ X10 mb) := fun e => by
            rcases hX10 mb e with e | e
            · exact unhide HOF e
            · have := (unhide HM6).lt
              omega
          have HX10 : Hid (HasCC (fun j => ¬ X10 j) w10 (.slice (some ⟨w8.heap.size, 0, none⟩) 2 2) [c4, c5]) := ((unhide HX6).only hw10.only (fun _ _ h => h.1)).mono (fun j _ hq e => by
            rcases hX10 j e with e | e
            · exact hq.1 e
            · have := hq.2
              omega)
          have HIN0 : Hid (InAt w10 w10 X10 mb (13 * k) P [c4, c5] 0) := ⟨unhide HM10, unhide HOF10, Only.refl _ _⟩
          clear hw10 h10 hX10 HX6 HM6 HS6 HCO HFA HOF HB9 HM10 HOF10 HONc
          obtain ⟨kk, hkk⟩ : ∃ kk, kk = qq.1 := ⟨_, rfl⟩
          have HKK := hide hkk
          rw [← hkk] at hle2 ⊢
          clear hkk
          have HKK0 : Hid (decide ((kk : Int) < 0) = false) := by show _ = _; simp
          have HKK2 : Hid (decide ((2 : Int) < kk) = false) := by show _ = _; simp; omega
          have HLE2 := hide hle2
          clear hle2
          go_upto_if 88 with fail
          rw [unhide HKK2, unhide HKK0, Bool.or_self]
          go_wp2_with fail
          go_loopw [9, 15] (fun b j wq => ∃ i mbi, i ≤ kk ∧ j = .int .i64 i ∧ b = .map (some mbi) ∧ InAt w10 wq X10 mbi (13 * k) P [c4, c5] i) (fun _ j _ => kk - (intOf j).toNat)
          case atStart => exact ⟨0, mb, Nat.zero_le _, rfl, rfl, unhide HIN0⟩
          case round =>
            obtain ⟨i, mbi, hik, rfl, rfl, hin⟩ := hrel
            have hle2 := unhide HLE2
            have HIN := hide hin
            clear hin HIN0
            by_cases hi : i < kk
            · have hi' : (i : Int) < kk := by omega
              have hi2 : (i : Int) < 2 := by omega
              obtain ⟨xb, xoff, xv, hxo, hxc, hxC⟩ := ((unhide HX10).same (unhide HIN).2.2).at i (by simp; omega)
              cases hxo
              have HFT := hide (fold_take [c4, c5] i (by simp; omega) P)
              have HTT := hide (tot_take [c4, c5] i (by simp; omega))
              obtain ⟨hkv, hcl⟩ := unhide HSHT _ (List.getElem_mem (show i < [c4, c5].length by simp; omega))
              have htl := tot_take_le [c4, c5] i
              obtain ⟨ci, hci⟩ : ∃ ci, ci = [c4, c5][i]'(by simp; omega) := ⟨_, rfl⟩
              rw [← hci] at hxC HFT HTT hkv hcl
              clear hci
              obtain ⟨xo, xcp, hxv, _⟩ := hxC.shape
              subst hxv
              have HWI := hide (with_any (unhide HIN).1 _ ci hxC (by omega) (by omega) (fun c hc => ⟨by have := (hkv c hc).1; unfold maxLen at this; omega, by have := (hkv c hc).2; omega⟩))
              clear hxC hkv
              rw [Nat.zero_add] at hxc
              go_wp2_with fail
              refine (unhide HWI).mono ?_
              rintro e w11 ⟨rfl, hm11, o11⟩
              have HNX : Hid (InAt w10 w11 X10 wr.heap.size (13 * k) P [c4, c5] (i + 1)) := by
                refine ⟨?_, fun e => ?_, (unhide HIN).2.2.trans o11 (fun _ _ e => e)⟩
                · rw [unhide HFT, unhide HTT, ← Nat.add_assoc]
                  exact hm11
                · have := ((unhide HS10).lt _ e).2
                  have := (unhide HIN).2.2.size
                  omega
              clear hm11 o11 HFT HTT
              go_wp2
              go_roundw
              case rel => exact ⟨i + 1, _, by omega, by go_num, rfl, unhide HNX⟩
              case measure => simp [intOf]; omega
            · obtain rfl : kk = i := by omega
              have hs11 := (unhide HIN).2.2.size
              have htl := tot_take_le [c4, c5] kk
              have HP10 : Hid (qq.2.P = ([c4, c5].take kk).foldl done P) := by
                show _ = _
                rw [unhide HKK]
                exact (unhide HEG).P
              have HM11 : Hid (MapS wr mbi (13 * k + 8) qq.2.P) := by
                show MapS wr mbi (13 * k + 8) qq.2.P
                rw [unhide HP10]
                exact (unhide HIN).1.more (by omega)
              have HOF11 := hide (unhide HIN).2.1
              have HS11 := hide ((unhide HS10).same (unhide HIN).2.2)
              have HX11 := hide ((unhide HX10).same (unhide HIN).2.2)
              have HB11 := hide ((unhide HIN).2.2.heap (unhide HB10) (fun e => e))
              have HSH11 : Hid (Short qq.2.P) := by
                show Short qq.2.P
                rw [unhide HP10]
                exact short_fold _ (unhide HSH) (fun l hl c hc => by have := ((unhide HSHT l (List.mem_of_mem_take hl)).1 c hc).2; omega)
              clear HIN HS10 HX10 HB10 HSH HP10 htl hs11
              by_cases he : qq.2.e = 9
              · rw [he]
                obtain ⟨hk2, hfell⟩ : ∃ h : qq.1 < [c4, c5].length, ∀ fs, ∃ P' u', (P' = qq.2.P ∨ P' = done qq.2.P [c4, c5][qq.1]) ∧ Good (Crashed qq.2.s.d fs) P' u' (2 * k + [c4, c5].length) (2 * k + [c4, c5].length) (8 * k + tot [c4, c5]) := by
                  rcases (unhide HEG).out with ⟨a, _, _⟩ | ⟨a, _, _⟩ | ⟨_, b⟩
                  · rw [a] at he; cases he
                  · rcases a with a | a <;> (rw [a] at he; cases he)
                  · exact b
                obtain ⟨P2, u2, hP2, hG2⟩ := hfell st.fs
                have HG2 : Hid (Good (Crashed qq.2.s.d st.fs) P2 u2 (2 * (k + 1)) (2 * (k + 1)) (8 * (k + 1))) := hG2.mono (by simp; omega) (by simp; omega) (by omega)
                have HK2 : Hid (okL (2 * (30 - (k + 1))) (Crashed qq.2.s.d st.fs)) := ⟨(unhide HK8).1, by
                  have := (unhide HK8).2
                  unfold Dk.half at this ⊢
                  show ((qq.2.s.d.crash st.fs).secs.length - 2) / 2 ≤ 2047
                  rw [show (qq.2.s.d.crash st.fs).secs.length = qq.2.s.d.secs.length from crashTo_length _ _ _ _]
                  exact this⟩
                have y4 := (cells_5 (unhide HB11)).2.2.2.2
                have HFV : Hid (HasV wr (.slice a4 st.fs.length a4c) (st.fs.map (.int .i64))) := by
                  have := (unhide HST).fates
                  rw [unhide HA4] at this
                  exact this.only (unhide HS11).only (fun _ _ _ h => h)
                have HFO : Hid (st.fs ≠ [] → ∀ j, blk (.slice a4 st.fs.length a4c) = some j → ¬ X10 j) := fun hne j hj e => by
                  have h0 := (unhide HST).fates
                  rw [unhide HA4] at h0
                  have h1 := h0.blk_lt (by simpa using hne) j hj
                  have h2 := ((unhide HS11).lt j e).1
                  omega
                have HCR := hide (stt_crash (unhide HS11) (by have := (unhide HK8).1; omega) _ st.fs (unhide HFV) (unhide HFO))
                obtain ⟨ci, hci⟩ : ∃ ci, ci = [c4, c5][qq.1] := ⟨_, rfl⟩
                have HCI : Hid ((∀ c ∈ ci, c.key.length ≤ maxLen ∧ c.value.length ≤ 40) ∧ ci.length ≤ 5) := by
                  rw [hci]
                  exact unhide HSHT _ (List.getElem_mem hk2)
                have HAT : Hid (∀ W, HasCC (fun j => ¬ X10 j) W (.slice (some ⟨w8.heap.size, 0, none⟩) 2 2) [c4, c5] → ∃ xv, W.cell? ⟨w8.heap.size, kk, none⟩ = some xv ∧ HasC (fun j => ¬ X10 j) W xv ci) := by
                  intro W hW
                  obtain ⟨xb, xoff, xv, hxo, hxc, hxC⟩ := hW.at qq.1 hk2
                  cases hxo
                  rw [Nat.zero_add, ← unhide HKK] at hxc
                  rw [← hci] at hxC
                  exact ⟨xv, hxc, hxC⟩
                rw [← hci] at hP2
                have HP2 := hide hP2
                have hkq : (kk : Int) < 2 := by have := unhide HKK; simp at hk2; omega
                clear hci hG2 hfell hP2 he hk2
                go_wp2_with fail
                refine (unhide HCR).mono ?_
                rintro e w12 ⟨rfl, F12, hd12, o12, hF12⟩
                have HM12 := hide ((unhide HM11).only o12 (unhide HOF11))
                have HX12 := hide ((unhide HX11).only o12 (fun _ _ h => h))
                have HF12 : Hid (¬ F12 mbi) := fun e => by
                  rcases hF12 mbi e with e | e
                  · exact unhide HOF11 e
                  · have := (unhide HM11).lt
                    omega
                have HOP := hide (stt_open (s := Crashed qq.2.s.d st.fs) hd12 (by have := (unhide HK2).1; omega) (unhide HG2) (by omega) (by omega))
                clear hd12 o12 hF12 HCR HFV HFO HX11 HB11 HS11 y4 HM11 HOF11
                go_wp2_with fail
                refine (unhide HOP).mono ?_
                rintro e w13 ⟨sb2, X13, rfl, hs13, hX13, o13⟩
                have HS13 := hide hs13
                have HM13 := hide ((unhide HM12).same o13)
                have HX13 := hide ((unhide HX12).same o13)
                have HOF13 : Hid (¬ X13 mbi) := fun e => by
                  rcases hX13 mbi e with e | e
                  · exact unhide HF12 e
                  · have := (unhide HM12).lt
                    omega
                have HSH2 : Hid (Short P2) := by
                  show Short P2
                  rcases unhide HP2 with e | e
                  · rw [e]; exact unhide HSH11
                  · rw [e]; exact (unhide HSH11).done ci (fun c hc => by have := ((unhide HCI).1 c hc).2; omega)
                have HIS := hide (is_any (unhide HS13) (unhide HM13) (by omega) (unhide HSH2))
                clear hs13 hX13 o13 HOP HM12 HX12 HF12
                by_cases hne : P2 = qq.2.P
                · rw [decide_eq_true hne] at HIS
                  rw [← hne] at HM13
                  clear hne HP2 HX13 HAT
                  go_wp2_with fail
                  refine (unhide HIS).mono ?_
                  rintro e w14 ⟨rfl, o14⟩
                  have HFIN : Hid (WhAt w w14 B sb2 X13 mbi (Crashed qq.2.s.d st.fs) P2 u2 (k + 1)) := ⟨(unhide HS13).same o14, unhide HG2, unhide HK2, ((unhide HM13).same o14).more (by omega), unhide HOF13, unhide HSH2⟩
                  go_wp2
                  go_roundw
                  case rel => exact ⟨k + 1, sb2, X13, mbi, _, _, _, by omega, by omega, by go_num, rfl, rfl, unhide HFIN⟩
                  case measure => simp [intOf]; omega
                · have hP2 : P2 = done qq.2.P ci := by
                    rcases unhide HP2 with e | e
                    · exact absurd e hne
                    · exact e
                  have HPE := hide hP2
                  rw [decide_eq_false hne] at HIS
                  clear hne hP2 HP2
                  go_wp2_with fail
                  refine (unhide HIS).mono ?_
                  rintro e w14 ⟨rfl, o14⟩
                  have HGE : Hid (decide ((2 : Int) ≤ kk) = false) := by show _ = _; simp; omega
                  obtain ⟨xv, hxc, hxC⟩ := unhide HAT w14 ((unhide HX13).same o14)
                  obtain ⟨xo, xcp, hxv, _⟩ := hxC.shape
                  subst hxv
                  have HS14 := hide ((unhide HS13).same o14)
                  have hcl := (unhide HCI).2
                  have HWI := hide (with_any ((unhide HM13).same o14) _ ci hxC (by omega) (by omega) (fun c hc => ⟨by have := ((unhide HCI).1 c hc).1; unfold maxLen at this; omega, by have := ((unhide HCI).1 c hc).2; omega⟩))
                  clear hxC HX13 HAT HS13 HM13 HIS o14
                  go_upto_if 129 with fail
                  rw [unhide HGE]
                  go_wp2_with fail
                  refine (unhide HWI).mono ?_
                  rintro e w15 ⟨rfl, hm15, o15⟩
                  rw [← unhide HPE] at hm15
                  have HM15 := hide hm15
                  have HS15 := hide ((unhide HS14).same o15)
                  have HOF15 : Hid (¬ X13 w14.heap.size) := fun e => by have := ((unhide HS14).lt _ e).2; omega
                  have HIS := hide (is_any (unhide HS15) (unhide HM15) (by omega) (unhide HSH2))
                  rw [decide_eq_true rfl] at HIS
                  clear hm15 o15 HWI HPE hxc
                  go_wp2_with fail
                  refine (unhide HIS).mono ?_
                  rintro e w16 ⟨rfl, o16⟩
                  have HFIN : Hid (WhAt w w16 B sb2 X13 w14.heap.size (Crashed qq.2.s.d st.fs) P2 u2 (k + 1)) := ⟨(unhide HS15).same o16, unhide HG2, unhide HK2, ((unhide HM15).same o16).more (by omega), unhide HOF15, unhide HSH2⟩
                  go_wp2
                  go_roundw
                  case rel => exact ⟨k + 1, sb2, X13, w14.heap.size, _, _, _, by omega, by omega, by go_num, rfl, rfl, unhide HFIN⟩
                  case measure => simp [intOf]; omega
              · have HNE : Hid ((qq.2.e != 9) = true) := by show (qq.2.e != 9) = true; simp [he]
                have HG11 : Hid (Good qq.2.s qq.2.P qq.2.u (2 * (k + 1)) (2 * (k + 1)) (8 * (k + 1))) := by
                  rcases (unhide HEG).out with ⟨_, _, c⟩ | ⟨_, _, c⟩ | ⟨a, _⟩
                  · exact c.mono (by simp; omega) (by simp; omega) (by omega)
                  · exact c.mono (by simp; omega) (by simp; omega) (by omega)
                  · exact absurd a he
                have HIS := hide (is_any (unhide HS11) (unhide HM11) (by omega) (unhide HSH11))
                rw [decide_eq_true rfl] at HIS
                generalize qq.2.e = ee at *
                clear he HX11 HB11
                go_upto_if 101 with fail
                rw [unhide HNE]
                go_wp2_with fail
                refine (unhide HIS).mono ?_
                rintro e w12 ⟨rfl, o12⟩
                have HFIN : Hid (WhAt w w12 B sb X10 mbi qq.2.s qq.2.P qq.2.u (k + 1)) := ⟨(unhide HS11).same o12, unhide HG11, unhide HK8, ((unhide HM11).same o12).more (by omega), unhide HOF11, unhide HSH11⟩
                go_wp2
                go_roundw
                case rel => exact ⟨k + 1, sb, X10, mbi, _, _, _, by omega, by omega, by go_num, rfl, rfl, unhide HFIN⟩
                case measure => simp [intOf]; omega
      · have hli : (k : Int) < m := by omega
        have hk30' : (k : Int) = 30 := by omega
        rw [hk30'] at hli
        rw [hk30']
        clear hk30' hl30 hlt hk30 hkm
        go_wp2
        go_ret
        exact ⟨rfl, unhide HON⟩
    · go_wp2
      go_ret
      exact ⟨rfl, unhide HON⟩
end St
end Go.Proofs.Ytmcobkcnpnfobaa
