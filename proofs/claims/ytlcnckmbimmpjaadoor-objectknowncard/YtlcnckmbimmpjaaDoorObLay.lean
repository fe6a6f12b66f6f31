/-
  object.Lay.
-/
import Derived.Test.YtlcnckmbimmpjaaDoorObW3
import Derived.Test.YtlcnckmbimmpjaaDoorObRight
namespace Go.Proofs.YtlcnckmbimmpjaaDoor
open Go.RowKit
set_option linter.unusedSimpArgs false
set_option linter.unusedVariables false
namespace Ob

def layU (o : Ob) : List UInt8 := if rightB o then lay o else []
def layE (o : Ob) : Int := if rightB o then 0 else 1

theorem lay_len {o : Ob} (h : Small o) : (lay o).length ≤ 100000 := by
  have h1 := flat_le dateL 9 o.dates (fun x _ => dateL_len x) o.dates.length
  rw [List.take_of_length_le (Nat.le_refl _), h.ten] at h1
  have h2 := allL_len textL o.names h.names.1 (fun x hx => by rw [textL_len]; have := h.names.2 x hx; omega)
  have h3 := allL_len linkL o.links h.links.1 (fun x hx => by unfold linkL b1; rw [List.length_append, be_length, textL_len]; have := h.links.2 x hx; omega)
  have h4 := allL_len custL o.custom h.custom.1 (fun x hx => by unfold custL; rw [List.length_append, textL_len, textL_len]; have := h.custom.2 x hx; omega)
  have h5 := limL_len o
  have h6 : (flagL o.arch).length = 1 := by unfold flagL b1; rw [be_length]
  have h7 := h.id
  have h8 := h.mat
  have h9 := h.msg
  unfold lay
  simp only [List.length_append, textL_len]
  unfold b1 b4
  simp only [be_length]
  omega

theorem layU_len {o : Ob} (hd : o.dates.length = 10) : (layU o).length ≤ 100000 := by
  unfold layU
  split
  · exact lay_len (small_of hd (by assumption))
  · simp

set_option maxRecDepth 100000 in
set_option maxHeartbeats 2000000 in
theorem lay_any {o : Ob} {mv nv lv cv : Value} {w : World} (h : In w o mv nv lv cv) (hT : Tabs w) :
    Calls Tryd.prog 8 #[val o mv nv lv cv] w fun e w' => ∃ u, e = .returned (.tuple #[u, .int .i64 (layE o)]) ∧ Owns w.heap.size w' u (layU o) ∧ Only (fun _ => False) w w' := by
  obtain ⟨w1, b, e1, eb, hb, o1, hs⟩ := boxed w (cells o mv nv lv cv).toArray 35
  have HR := hide (right_any (h.same o1) (hT.same o1))
  have HI := hide h
  unfold val at HR ⊢
  obtain ⟨A, hA⟩ : ∃ A, A = (cells o mv nv lv cv).toArray := ⟨_, rfl⟩
  rw [← hA] at hb e1 HR ⊢
  have hAl : A.size = 37 := by rw [hA, List.size_toArray]; exact cells_len o mv nv lv cv h.ten
  have HAL := hide hAl
  have HBX := hide hb
  have O1 := hide o1
  have HE1 : Hid (layE o = if rightB o then 0 else 1) := rfl
  have HU1 : Hid (layU o = if rightB o then lay o else []) := rfl
  have HA := hide hA
  have HSM := hide (fun q => small_of (o := o) h.ten q)
  obtain ⟨dsc, hdu, hdr⟩ := row_desc Tryd.rowObj
  have hr1 := hb.range 0 37
  rw [List.drop_zero, List.take_of_length_le (by rw [Array.length_toList, hAl]; omega)] at hr1
  clear h hT hb o1 hs hA hAl
  cases hri : rightB o with
  | false =>
    rw [hri] at HR HE1 HU1
    clear hri HSM
    go_enter Tryd.func8, Tryd.ntmps8
    go_upto_region 1 with fail
    rw [← e1, ← eb]
    clear e1 eb
    go_wp2_with (refine wpList_load_mid rfl 35 (.tmp 1) rfl b 0 rfl A.toList dsc hr1 hdu hdr (by rw [Tryd.sizeObj, Array.length_toList, unhide HAL]) ?_)
    refine (unhide HR).mono ?_
    rintro e x ⟨rfl, o2⟩
    have O2 := hide ((unhide O1).trans o2 (fun _ _ e => e))
    clear o2 hr1
    go_wp2
    go_ret2
    exact ⟨.slice none 0 0, by rw [unhide HE1]; first | done | rfl, by rw [unhide HU1]; exact World.ownsRow_nil _ _ _ _, unhide O2⟩
  | true =>
    rw [hri] at HR HE1 HU1
    have HS := hide (unhide HSM hri)
    clear hri HSM
    go_enter Tryd.func8, Tryd.ntmps8
    go_upto_region 1 with fail
    rw [← e1, ← eb]
    clear e1 eb
    go_wp2_with (refine wpList_load_mid rfl 35 (.tmp 1) rfl b 0 rfl A.toList dsc hr1 hdu hdr (by rw [Tryd.sizeObj, Array.length_toList, unhide HAL]) ?_)
    refine (unhide HR).mono ?_
    rintro e x ⟨rfl, o2⟩
    have O2 := hide ((unhide O1).trans o2 (fun _ _ e => e))
    have HB2 := hide ((unhide HBX).same o2)
    clear o2 hr1
    go_wp2_with fail
    refine (WO.mine_new x).mono ?_
    rintro e x2 ⟨wb, rfl, hm⟩
    obtain ⟨x3, k3, e3, ek3, hb3, o3, hs3⟩ := boxed x2 #[.pointer (some ⟨wb, 0, none⟩)] 60
    have c3 := hb3.cell 0 _ rfl
    have HM3 := hide (hm.same o3)
    have O3 := hide ((unhide O2).trans (hm.same o3).only (fun _ _ e => e))
    have hr3 := ((unhide HB2).same (hm.same o3).only).range 0 37
    rw [List.drop_zero, List.take_of_length_le (by rw [Array.length_toList, unhide HAL]; omega)] at hr3
    have HB3 := hide hb3
    have hx3 : x.heap.size ≤ k3 := by have := hm.only.size; omega
    have hwb : wb < k3 := by have := hm.len_lt; omega
    obtain ⟨v2, hv2, hvk2⟩ := hm.at'
    have HV2 := hide (hv2.only o3 (fun e => e) (fun _ _ e => e))
    have HVK2 := hide hvk2
    have HNK : Hid (¬ v2.ownBlock = some k3) := by
      show ¬ _
      intro e
      have := (hv2.own.lt k3 e).2
      omega
    clear hm hb3 o3 hs3 hv2 hvk2
    go_upto_region 4 with fail
    rw [← e3, ← ek3]
    clear e3 ek3
    have hv3 := unhide HV2
    have hvk3 := unhide HVK2
    have hup3 := (unhide HM3).up
    have HC := hide (wobject_any o mv nv lv cv wb [] v2 x x3 ((unhide HI).same (unhide O2)) (unhide HM3).only hup3 hv3 hvk3 (unhide HS) (by simp))
    unfold val wv at HC
    rw [← unhide HA] at HC
    have HV3 := hide hv3
    have HK3 := hide hvk3
    clear hv3 hvk3
    go_wp2_with (refine wpList_load_mid rfl 35 (.tmp 1) rfl b 0 rfl A.toList dsc hr3 hdu hdr (by rw [Tryd.sizeObj, Array.length_toList, unhide HAL]) ?_)
    refine (unhide HC).mono ?_
    rintro e x4 ⟨rfl, v4, q4⟩
    have c4 : x4.cell? ⟨k3, 0, none⟩ = some (.pointer (some ⟨wb, 0, none⟩)) := q4.only.cell c3 (fun e => by
      rcases e with e | e
      · exact absurd e (by show k3 ≠ wb; omega)
      · exact unhide HNK e)
    have hm4 := WO.Mine.wrote (unhide HM3).only hup3 (unhide HK3) q4
    have HM4 := hide hm4
    clear q4 hr3 c3 hm4
    go_wp2_with fail
    refine (WO.mine_bytes (unhide HM4) (by have := lay_len (unhide HS); simp; omega)).mono ?_
    rintro e x5 ⟨u, rfl, hu⟩
    have O5 := hide (((unhide O2).trans (unhide HM4).only (fun _ _ e => e)).trans hu.only (fun _ _ e => e))
    have HOU : Hid (Owns w.heap.size x5 u (lay o)) := by
      have h1 := hu.own
      rw [List.nil_append] at h1
      exact ownsRow_base h1 (by have h2 := (unhide O2).size; have h3 := (unhide HM4).only.size; omega)
    clear hu
    go_wp2
    go_ret2
    exact ⟨u, by rw [unhide HE1]; first | done | rfl, by rw [unhide HU1]; exact unhide HOU, unhide O5⟩
end Ob
end Go.Proofs.YtlcnckmbimmpjaaDoor
