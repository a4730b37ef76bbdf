/- Characters between elements; what stands outside. No condition beyond what the theorems state. -/
import Derived.Test.YtpdaldpaceolnaaGreatDoorAttrs
import Derived.Lib.SmallJoins
namespace Go.Proofs.YtpdaldpaceolnaaGreatDoor
open Go.RowKit Go.Lib
set_option maxRecDepth 100000
set_option maxHeartbeats 8000000
theorem up_split {p l v r : List UInt8} (h : upL p l = some (v, r)) : l = v ++ (p ++ r) := by
  rcases Lib.index_spec l p with ⟨h1, _⟩ | ⟨i, h1, h2, h3, _⟩
  · have hc : Lib.cut l p = (l, [], false) := by unfold Lib.cut; rw [h1]; rfl
    unfold upL at h
    rw [hc] at h
    cases h
  · have e1 : ((i : Nat) : Int).toNat = i := by simp
    have e0 : (0 : Int) ≤ ((i : Nat) : Int) := Int.natCast_nonneg i
    have hc : Lib.cut l p = (l.take i, l.drop (i + p.length), true) := by unfold Lib.cut; rw [h1, if_pos e0, e1]
    unfold upL at h
    rw [hc, if_pos rfl] at h
    cases h
    unfold Lib.occAt at h3
    obtain ⟨t, ht⟩ := List.isPrefixOf_iff_prefix.1 h3
    rw [← List.drop_drop, ← ht, List.drop_left, ht, List.take_append_drop]
theorem up_valid {c : UInt8} {p l v r : List UInt8} (hc : c.toNat < 128) (hp : ∀ x ∈ p, x.toNat < 128) (hv : validX l = true) (h : upL (c :: p) l = some (v, r)) : validX v = true ∧ validX r = true ∧ v.length + (p.length + 1) + r.length = l.length := by
  have hs := up_split h
  rw [hs, List.cons_append] at hv
  obtain ⟨h1, h2⟩ := vx_split v.length v c (p ++ r) (Nat.le_refl _) hc hv
  obtain ⟨_, h3⟩ := vx_behind c (p ++ r) hc h2
  obtain ⟨_, h4⟩ := vx_ascii p r hp h3
  refine ⟨h1, h4, ?_⟩
  rw [hs]
  simp only [List.length_append, List.length_cons]
  omega
def kS (a : List UInt8) : List (List UInt8) := if a = [] then [] else [a]
theorem kF_flat {L : List (List UInt8)} {a : List UInt8} (h : L.flatten = a) : kF L = kS a := by subst h; rfl
def TxPost (b : Nat) (R : Option (List UInt8 × List UInt8)) (w : World) (e : Ending) (w' : World) : Prop := match R with
  | some (a, r) => (∃ A c, e = .returned (.slice A (kS a).length c) ∧ w'.ownsRow w.heap.size 27 5 (.slice A (kS a).length c) (kS a).length (rowX (kS a))) ∧ Mv b r w w'
  | none => e = GU 61 ∧ ∃ l', Mv b l' w w'
theorem text_go (b : Nat) (l0 : List UInt8) (w : World) (h : At w b l0) (hl : l0.length ≤ 100000) (hv : validX l0 = true) (hE : Env w) (hb5 : 5 ≤ b) (R : Option (List UInt8 × List UInt8)) (hR : textGo (l0.length + 1) l0 [] = R) : Calls Tryz.prog 74 #[.pointer (some ⟨b, 0, none⟩)] w (TxPost b R w) := by
  have HA := Lib.hid h
  have HE := Lib.hid hE
  have HR := Lib.hid hR
  have HV0 := Lib.hid hv
  have hz := h.2.2
  obtain ⟨i5, hi5, hz50, hz51, hz52⟩ := info_parts tree_info
  have HTQ : Hid (∀ (l : List UInt8) (W : World), At W b l → Calls Tryz.prog 47 #[.pointer (some ⟨b, 0, none⟩), .string ⟨#[60, 33, 91, 67, 68, 65, 84, 65, 91]⟩] W (TkPost b cdataB l W)) := Lib.hid fun l W hW => take_any b l cdataB W hW
  have HTA : Hid (∀ (l : List UInt8) (W : World), At W b l → Calls Tryz.prog 47 #[.pointer (some ⟨b, 0, none⟩), .string ⟨#[38]⟩] W (TkPost b [38] l W)) := Lib.hid fun l W hW => take_any b l [38] W hW
  have HAH : Hid (∀ (l : List UInt8) (W : World), At W b l → Calls Tryz.prog 72 #[.pointer (some ⟨b, 0, none⟩), .string ⟨#[60]⟩] W fun e w' => e = .returned (.bool (Lib.hasPrefix l [60])) ∧ w' = W) := Lib.hid fun l W hW => ahead_any b l [60] W hW
  have HCH : Hid (∀ (l : List UInt8) (W : World), At W b l → l.length ≤ 100000 → validX l = true → Calls Tryz.prog 93 #[.pointer (some ⟨b, 0, none⟩), .string ⟨#[60, 38]⟩] W fun e w' => e = .returned (.string (ba' (cutX l (Lib.indexAny l [60, 38])).1)) ∧ Mv b (cutX l (Lib.indexAny l [60, 38])).2 W w') := Lib.hid fun l W hW h1 h2 => characters_any b l [60, 38] W hW (by omega) (.inl rfl) (by decide) h2
  have HM0 := Lib.hid (Mv.refl h)
  clear h hE hR hv
  go_enter Tryz.func74, Tryz.ntmps74
  go_wp2
  go_loopw [3] (fun s3 wx => ∃ (l acc : List UInt8) (L : List (List UInt8)) (f m : Nat) (A : Option Addr) (c : Nat), s3 = .slice A m c ∧ l.length < f ∧ l.length ≤ l0.length ∧ acc.length + 4 * l.length ≤ 4 * l0.length ∧ m + l.length ≤ l0.length ∧ Hid (L.length = m) ∧ Hid (L.flatten = acc) ∧ Hid (validX l = true) ∧ Hid (textGo f l acc = R) ∧ Hid (Mv b l w wx) ∧ Hid (wx.ownsRow w.heap.size 27 5 (.slice A m c) m (rowX L))) (fun _ wx => leftLen b wx)
  case atStart => exact ⟨l0, [], [], l0.length + 1, 0, none, 0, rfl, by omega, by omega, by simp only [List.length_nil]; omega, by omega, Lib.hid rfl, Lib.hid rfl, HV0, HR, HM0, Lib.hid (World.ownsRow_nil _ _ _ _)⟩
  case round =>
    obtain ⟨l, acc, L, f, m, A, c, rfl, hf, hll, hac, hml, HLM, HFL, HV, HF, HM, HO⟩ := hrel
    obtain ⟨f, rfl⟩ : ∃ f', f = f' + 1 := ⟨f - 1, by omega⟩
    have HAT := Lib.hid HM.out.here
    have HLL := Lib.hid (leftLen_at HAT.out)
    have hst := HF.out
    unfold textGo at hst
    have HST := Lib.hid hst
    have hgz := HM.out.grow
    clear hst HF HR HM0
    go_wp2_with fail
    refine (HTQ.out l _ HAT.out).mono ?_
    intro e w3 ht
    unfold TkPost at ht
    cases hsq : stripX cdataB l with
    | some r =>
      rw [hsq] at ht
      obtain ⟨rfl, hm⟩ := ht
      obtain ⟨hvr, hlr⟩ := strip_valid (by decide) HV.out hsq
      have hlen : cdataB.length = 9 := by rfl
      rw [hlen] at hlr
      have hst := HST.out
      rw [hsq] at hst
      simp only at hst
      have HST2 := Lib.hid hst
      have HM3 := Lib.hid (HM.out.trans hm)
      have HA3 := Lib.hid hm.here
      have HO3 := Lib.hid (hm.own HO.out hz)
      have z3 : w.heap.size ≤ w3.heap.size := Nat.le_trans hgz hm.grow
      have HVR := Lib.hid hvr
      have HUP : Hid (Calls Tryz.prog 68 #[.pointer (some ⟨b, 0, none⟩), .string ⟨#[93, 93, 62]⟩] w3 (UpPost b [93, 93, 62] r w3)) := Lib.hid (by
        obtain ⟨_, ⟨v, hv⟩, _⟩ := HE.out.mv HM3.out hb5
        exact upTo_any b r [93, 93, 62] w3 HA3.out (by omega) v hv)
      clear hm hst hsq HST HM HO HAT hvr hlen
      go_wp2_with fail
      refine HUP.out.mono ?_
      intro e w5 hrf
      unfold UpPost at hrf
      cases hcf : upL [93, 93, 62] r with
      | none =>
        rw [hcf] at hrf
        obtain ⟨rfl, hm⟩ := hrf
        have HN : Hid (R = none) := Lib.hid (by have h := HST2.out; rw [hcf] at h; exact h.symm)
        have HM5 := Lib.hid (HM3.out.trans hm)
        clear hm HST2 hcf
        go_wp2
        rw [HN.out]
        exact ⟨rfl, rfl, _, HM5.out⟩
      | some x =>
        obtain ⟨u, rest⟩ := x
        rw [hcf] at hrf
        obtain ⟨rfl, hm⟩ := hrf
        have hst := HST2.out
        rw [hcf] at hst
        simp only at hst
        have HN := Lib.hid hst
        obtain ⟨_, c1, c2⟩ := up_valid (by decide) (by decide) HVR.out hcf
        simp only [List.length_cons, List.length_nil] at c2
        have HVS := Lib.hid c1
        have HM5 := Lib.hid (HM3.out.trans hm)
        have HO5 := Lib.hid (hm.own HO3.out hz)
        have z5 : w.heap.size ≤ w5.heap.size := Nat.le_trans z3 hm.grow
        clear hm hst HST2 hcf HM3 HA3 HO3 c1 HUP
        go_wp2_with (first
          | (at_builtin
             refine wpList_append_any _ rfl (.tmp 33) (.tmp 36) _ rfl w.heap.size 27 i5 _ 5 88 Tryz.underlying25 hi5 hz50 hz51 hz52 rfl (by omega) (.slice A m c) m (rowX L) rfl (own_below HO5.out (ba (Below.refl _ _))) (w5.heap.size + 1) (some ⟨w5.heap.size, 0, none⟩) 1 1 (txC u) rfl ⟨rfl, fun _ => ⟨_, rfl, by simp, five_at _ _ (by simp) _ _ _ _ _ _⟩⟩ (txC_one u) (by simp only [maxLen]; omega) (by omega) (by simp; omega) ?_
             intro v9 w9 hown9 hg9 hat9
             obtain ⟨A9, c9, rfl⟩ := own_slice hown9
             have HO9 := Lib.hid hown9
             have HG9 := Lib.hid hg9
             clear hown9 hg9 hat9))
        have HGR : Hid (∀ k, (Value.slice A m c).ownBlock = some k → w.heap.size ≤ k) := Lib.hid fun k hk => (own_lt HO5.out hk).1
        have HM9 : Hid (Mv b rest w w9) := Lib.hid ((HM5.out.below (ba (Below.refl _ _))).grown HG9.out (fun k hk => by have := HGR.out k hk; omega))
        have HL9 := Lib.hid (leftLen_at HM9.out.here)
        go_roundw
        case rel => exact ⟨rest, acc ++ u, L ++ [u], f, m + 1, A9, c9, rfl, by omega, by omega, by rw [List.length_append]; omega, by omega, Lib.hid (by rw [List.length_append, HLM.out]; rfl), Lib.hid (by rw [List.flatten_append, HFL.out]; simp), HVS, HN, HM9, Lib.hid (by rw [rowX_snoc]; exact HO9.out)⟩
        case measure => rw [HL9.out, HLL.out]; omega
    | none =>
      rw [hsq] at ht
      obtain ⟨rfl, hm⟩ := ht
      have hst := HST.out
      rw [hsq] at hst
      simp only at hst
      have HST2 := Lib.hid hst
      have HM3 := Lib.hid (HM.out.trans hm)
      have HA3 := Lib.hid hm.here
      have HO3 := Lib.hid (hm.own HO.out hz)
      have z3 : w.heap.size ≤ w3.heap.size := Nat.le_trans hgz hm.grow
      clear hm hst HST hsq HM HO HAT
      go_wp2_with fail
      refine (HTA.out l _ HA3.out).mono ?_
      intro e w4 ht
      unfold TkPost at ht
      cases hsa : stripX [38] l with
      | some r =>
        rw [hsa] at ht
        obtain ⟨rfl, hm⟩ := ht
        obtain ⟨hvr, hlr⟩ := strip_valid (by decide) HV.out hsa
        simp only [List.length_cons, List.length_nil] at hlr
        have hst := HST2.out
        rw [hsa] at hst
        simp only at hst
        have HST3 := Lib.hid hst
        have HM4 := Lib.hid (HM3.out.trans hm)
        have HA4 := Lib.hid hm.here
        have HO4 := Lib.hid (hm.own HO3.out hz)
        have z4 : w.heap.size ≤ w4.heap.size := Nat.le_trans z3 hm.grow
        have HRF := Lib.hid (reference_any b r w4 HA4.out (by omega) (HE.out.mv HM4.out hb5))
        have HVR := Lib.hid hvr
        clear hm hst hsa HST2 HA3 HO3 HM3 z3 hvr
        go_wp2_with fail
        refine HRF.out.mono ?_
        intro e w5 hrf
        unfold RfPost at hrf
        cases hcf : cutF r with
        | none =>
          rw [hcf] at hrf
          obtain ⟨rfl, hm⟩ := hrf
          have HN : Hid (R = none) := Lib.hid (by have h := HST3.out; rw [hcf] at h; exact h.symm)
          have HM5 := Lib.hid (HM4.out.trans hm)
          clear hm HST3 hcf
          go_wp2
          rw [HN.out]
          exact ⟨rfl, rfl, _, HM5.out⟩
        | some x =>
          obtain ⟨u, rest⟩ := x
          rw [hcf] at hrf
          obtain ⟨rfl, hm⟩ := hrf
          have hst := HST3.out
          rw [hcf] at hst
          simp only at hst
          have HN := Lib.hid hst
          obtain ⟨c1, c2⟩ := cutF_len hcf
          have HVS := Lib.hid (cutF_valid HVR.out hcf)
          have HM5 := Lib.hid (HM4.out.trans hm)
          have HO5 := Lib.hid (hm.own HO4.out hz)
          have z5 : w.heap.size ≤ w5.heap.size := Nat.le_trans z4 hm.grow
          clear hm hst HST3 hcf HO4 HM4 HA4 HRF
          go_wp2_with (first
            | (at_builtin
               refine wpList_append_any _ rfl (.tmp 33) (.tmp 36) _ rfl w.heap.size 27 i5 _ 5 88 Tryz.underlying25 hi5 hz50 hz51 hz52 rfl (by omega) (.slice A m c) m (rowX L) rfl (own_below HO5.out (ba (Below.refl _ _))) (w5.heap.size + 1) (some ⟨w5.heap.size, 0, none⟩) 1 1 (txC u) rfl ⟨rfl, fun _ => ⟨_, rfl, by simp, five_at _ _ (by simp) _ _ _ _ _ _⟩⟩ (txC_one u) (by simp only [maxLen]; omega) (by omega) (by simp; omega) ?_
               intro v9 w9 hown9 hg9 hat9
               obtain ⟨A9, c9, rfl⟩ := own_slice hown9
               have HO9 := Lib.hid hown9
               have HG9 := Lib.hid hg9
               clear hown9 hg9 hat9))
          have HGR : Hid (∀ k, (Value.slice A m c).ownBlock = some k → w.heap.size ≤ k) := Lib.hid fun k hk => (own_lt HO5.out hk).1
          have HM9 : Hid (Mv b rest w w9) := Lib.hid ((HM5.out.below (ba (Below.refl _ _))).grown HG9.out (fun k hk => by have := HGR.out k hk; omega))
          have HL9 := Lib.hid (leftLen_at HM9.out.here)
          go_roundw
          case rel => exact ⟨rest, acc ++ u, L ++ [u], f, m + 1, A9, c9, rfl, by omega, by omega, by rw [List.length_append]; omega, by omega, Lib.hid (by rw [List.length_append, HLM.out]; rfl), Lib.hid (by rw [List.flatten_append, HFL.out]; simp), HVS, HN, HM9, Lib.hid (by rw [rowX_snoc]; exact HO9.out)⟩
          case measure => rw [HL9.out, HLL.out]; omega
      | none =>
        rw [hsa] at ht
        obtain ⟨rfl, hm⟩ := ht
        have hst := HST2.out
        rw [hsa] at hst
        simp only at hst
        have HST3 := Lib.hid hst
        have HM4 := Lib.hid (HM3.out.trans hm)
        have HA4 := Lib.hid hm.here
        have HO4 := Lib.hid (hm.own HO3.out hz)
        have z4 : w.heap.size ≤ w4.heap.size := Nat.le_trans z3 hm.grow
        have HAN := Lib.hid hsa
        clear hm hst hsa HST2 HA3 HO3 HM3 z3
        have HMG : Hid (∀ W, w4 = W → L.flatten = acc → Calls Tryz.prog 94 #[.slice A m c] W fun e w' => (∃ A' c', e = .returned (.slice A' (kS acc).length c') ∧ w'.ownsRow w.heap.size 27 5 (.slice A' (kS acc).length c') (kS acc).length (rowX (kS acc))) ∧ Below W.heap.size W w') := Lib.hid fun W hW hfa => by
          subst hW
          have hgo : ∃ g, (0 < m → A = some ⟨g, 0, none⟩) ∧ g < w4.heap.size ∧ Rx w4 g L := by
            by_cases hm0 : 0 < m
            · obtain ⟨g, e, h1, h2, h3, h4⟩ := row_cells5 HO4.out hm0
              exact ⟨g, fun _ => e, h2, Rx.of h4⟩
            · have hL : L = [] := List.length_eq_zero_iff.1 (by rw [HLM.out]; omega)
              refine ⟨b, fun h => absurd h hm0, HA4.out.2.2, ?_⟩
              rw [hL]
              intro i s hs
              simp at hs
          obtain ⟨g, h1, h2, h3⟩ := hgo
          refine (merge_any g m c A L w4 HLM.out h1 h3 h2 (by omega) (by rw [hfa]; omega)).mono ?_
          rintro e w' ⟨⟨A', c', he, ho⟩, hb⟩
          rw [kF_flat hfa] at he ho
          exact ⟨⟨A', c', he, Joins.ownsRow_le ho z4⟩, hb⟩
        by_cases h0 : l = []
        · have HN : Hid (R = some (acc, l)) := Lib.hid (by have h := HST3.out; rw [if_pos (.inl h0)] at h; exact h.symm)
          subst h0
          obtain ⟨k0, k1, k2⟩ := HA4.out
          have e0 : (ba' []).toList.isEmpty = true := by rw [toList_ba]; rfl
          clear HST3
          go_wp2_with fail
          refine (HMG.out _ rfl HFL.out).mono ?_
          rintro e w6 ⟨⟨A6, c6, rfl, ho⟩, hb⟩
          have HO6 := Lib.hid ho
          have HM6 := Lib.hid (HM4.out.below hb)
          clear ho hb
          go_wp2
          go_ret
          rw [HN.out]
          exact ⟨⟨A6, c6, rfl, HO6.out⟩, HM6.out⟩
        · obtain ⟨k0, k1, k2⟩ := HA4.out
          have e0 : (ba' l).toList.isEmpty = false := by rw [toList_ba]; cases l with | nil => exact absurd rfl h0 | cons => rfl
          have HH0 := Lib.hid h0
          clear h0
          go_wp2_with fail
          refine (HAH.out l _ HA4.out).mono ?_
          rintro e w5 ⟨rfl, rfl⟩
          cases hlt : Lib.hasPrefix l [60] with
          | true =>
            have HN : Hid (R = some (acc, l)) := Lib.hid (by have h := HST3.out; rw [if_pos (.inr hlt)] at h; exact h.symm)
            clear HST3 hlt k0 k1 k2
            go_wp2_with fail
            refine (HMG.out _ rfl HFL.out).mono ?_
            rintro e w6 ⟨⟨A6, c6, rfl, ho⟩, hb⟩
            have HO6 := Lib.hid ho
            have HM6 := Lib.hid (HM4.out.below hb)
            clear ho hb
            go_wp2
            go_ret
            rw [HN.out]
            exact ⟨⟨A6, c6, rfl, HO6.out⟩, HM6.out⟩
          | false =>
            have hst := HST3.out
            rw [if_neg (by rintro (e | e); exact HH0.out e; rw [hlt] at e; cases e)] at hst
            have hless := cutAny_less [60, 38] l HH0.out (by
              intro x hx
              simp only [List.mem_cons, List.not_mem_nil, or_false] at hx
              rcases hx with rfl | rfl
              · exact hlt
              · rw [strip_has, HAN.out]; rfl)
            obtain ⟨hcv, hcl⟩ := cutAny_valid [60, 38] (by decide) l HV.out
            have hch := HCH.out l w5 HA4.out (by omega) HV.out
            obtain ⟨u, t, hut⟩ : ∃ u t, cutX l (Lib.indexAny l [60, 38]) = (u, t) := ⟨_, _, rfl⟩
            rw [hut] at hst hless hcv hcl hch
            simp only at hst hless hcv hcl hch
            have HST4 := Lib.hid hst
            have HCV := Lib.hid hcv
            have HCC := Lib.hid hch
            have HCO : Hid (∀ W, Mv b t w W → Calls Tryz.prog 95 #[.string (ba' u), .string ⟨#[93, 93, 62]⟩] W fun e w' => e = .returned (.bool (Lib.contains u [93, 93, 62])) ∧ w' = W) := Lib.hid fun W hW => by
              obtain ⟨_, ⟨v, hv⟩, _⟩ := HE.out.mv hW hb5
              exact Tryz.strings_Contains (ba' u) ⟨#[93, 93, 62]⟩ v W (by rw [size_ba]; omega) hv
            clear hst hcv hch hut hlt k0 k1 k2 HST3
            go_wp2_with fail
            refine HCC.out.mono ?_
            rintro e w6 ⟨rfl, hm⟩
            have HM6 := Lib.hid (HM4.out.trans hm)
            have HO6 := Lib.hid (hm.own HO4.out hz)
            have z6 : w.heap.size ≤ w6.heap.size := Nat.le_trans z4 hm.grow
            clear hm HO4 HM4 HA4 HCC HMG
            go_wp2_with fail
            refine (HCO.out _ HM6.out).mono ?_
            rintro e w7 ⟨rfl, rfl⟩
            cases hct : Lib.contains u [93, 93, 62] with
            | true =>
              have HN : Hid (R = none) := Lib.hid (by have h := HST4.out; rw [hct, if_pos rfl] at h; exact h.symm)
              clear HST4 hct
              go_wp2_with fail
              refine (fail_any _ _).mono ?_
              rintro e w8 ⟨rfl, rfl⟩
              go_wp2
              rw [HN.out]
              exact ⟨rfl, rfl, _, HM6.out⟩
            | false =>
              have HN := HST4.out
              rw [hct, if_neg (by simp)] at HN
              have HN := Lib.hid HN
              clear HST4 hct
              go_wp2_with (first
                | (at_builtin
                   refine wpList_append_any _ rfl (.tmp 33) (.tmp 36) _ rfl w.heap.size 27 i5 _ 5 88 Tryz.underlying25 hi5 hz50 hz51 hz52 rfl (by omega) (.slice A m c) m (rowX L) rfl (own_below HO6.out (ba (Below.refl _ _))) (w7.heap.size + 1) (some ⟨w7.heap.size, 0, none⟩) 1 1 (txC u) rfl ⟨rfl, fun _ => ⟨_, rfl, by simp, five_at _ _ (by simp) _ _ _ _ _ _⟩⟩ (txC_one u) (by simp only [maxLen]; omega) (by omega) (by simp; omega) ?_
                   intro v9 w9 hown9 hg9 hat9
                   obtain ⟨A9, c9, rfl⟩ := own_slice hown9
                   have HO9 := Lib.hid hown9
                   have HG9 := Lib.hid hg9
                   clear hown9 hg9 hat9))
              have HGR : Hid (∀ k, (Value.slice A m c).ownBlock = some k → w.heap.size ≤ k) := Lib.hid fun k hk => (own_lt HO6.out hk).1
              have HM9 : Hid (Mv b t w w9) := Lib.hid ((HM6.out.below (ba (Below.refl _ _))).grown HG9.out (fun k hk => by have := HGR.out k hk; omega))
              have HL9 := Lib.hid (leftLen_at HM9.out.here)
              go_roundw
              case rel => exact ⟨t, acc ++ u, L ++ [u], f, m + 1, A9, c9, rfl, by omega, by omega, by rw [List.length_append]; omega, by omega, Lib.hid (by rw [List.length_append, HLM.out]; rfl), Lib.hid (by rw [List.flatten_append, HFL.out]; simp), HCV, HN, HM9, Lib.hid (by rw [rowX_snoc]; exact HO9.out)⟩
              case measure => rw [HL9.out, HLL.out]; omega
end Go.Proofs.YtpdaldpaceolnaaGreatDoor
namespace Go.Proofs.YtpdaldpaceolnaaGreatDoor
open Go.RowKit Go.Lib
set_option maxRecDepth 100000
set_option maxHeartbeats 8000000
def cmB : List UInt8 := [60, 33, 45, 45]
def cmP (v : List UInt8) : PT := .mk 5 [] v [] []
def txP (v : List UInt8) : PT := .mk 4 [] v [] []
def cmT (v : List UInt8) : Tr := .mk 5 [] v none 0 [] none 0 []
def txT (v : List UInt8) : Tr := .mk 4 [] v none 0 [] none 0 []
theorem rowX_T (L : List (List UInt8)) : rowX L = rowT (L.map txT) := by
  unfold rowX rowT
  rw [List.flatMap_map]
  rfl
theorem textK_S (a : List UInt8) : textK a = (kS a).map txP := by
  unfold textK kS
  split <;> rfl
theorem strip_len {p l r : List UInt8} (h : stripX p l = some r) : r.length + p.length = l.length := by
  unfold stripX at h
  split at h
  · rename_i hh
    cases h
    have := congrArg List.length (prefix_take hh)
    rw [List.length_take] at this
    rw [List.length_drop]
    omega
  · cases h
theorem comment_len {l v r : List UInt8} (h : commentL l = some (v, r)) : v.length + 3 + r.length = l.length := by
  unfold commentL at h
  cases hu : upL [45, 45] l with
  | none => rw [hu] at h; cases h
  | some x =>
    obtain ⟨u, t⟩ := x
    rw [hu] at h
    simp only at h
    have h1 := congrArg List.length (up_split hu)
    simp only [List.length_append, List.length_cons, List.length_nil] at h1
    cases hs : stripX [62] t with
    | none => rw [hs] at h; cases h
    | some y =>
      rw [hs] at h
      simp only [Option.some.injEq, Prod.mk.injEq] at h
      obtain ⟨rfl, rfl⟩ := h
      have h2 := strip_len hs
      simp only [List.length_cons, List.length_nil] at h2
      omega
theorem comment_valid {l v r : List UInt8} (hv : validX l = true) (h : commentL l = some (v, r)) : validX r = true := by
  unfold commentL at h
  cases hu : upL [45, 45] l with
  | none => rw [hu] at h; cases h
  | some x =>
    obtain ⟨u, t⟩ := x
    rw [hu] at h
    simp only at h
    obtain ⟨_, h1, _⟩ := up_valid (by decide) (by decide) hv hu
    cases hs : stripX [62] t with
    | none => rw [hs] at h; cases h
    | some y =>
      rw [hs] at h
      simp only [Option.some.injEq, Prod.mk.injEq] at h
      obtain ⟨rfl, rfl⟩ := h
      exact (strip_valid (by decide) h1 hs).1
def OuPost (b : Nat) (R : Option (List PT × List UInt8)) (w : World) (e : Ending) (w' : World) : Prop := match R with
  | some (ts, r) => (∃ (V : List (List UInt8)) (A : Option Addr) (c : Nat), ts = V.map cmP ∧ e = .returned (.slice A V.length c) ∧ w'.ownsRow w.heap.size 27 5 (.slice A V.length c) V.length (rowT (V.map cmT))) ∧ Mv b r w w'
  | none => e = GU 61 ∧ ∃ l', Mv b l' w w'
def cmC (v : List UInt8) : List Value := [.int .i64 5, .string ⟨#[]⟩, .string (ba' v), .slice none 0 0, .slice none 0 0]
theorem cmC_one (s : List UInt8) : ∀ u ∈ cmC s, u.oneCell' = true := by
  intro u hu
  unfold cmC at hu
  simp at hu
  rcases hu with rfl | rfl | rfl | rfl <;> rfl
theorem rowC_snoc (V : List (List UInt8)) (v : List UInt8) : rowT ((V ++ [v]).map cmT) = rowT (V.map cmT) ++ cmC v := by
  unfold rowT
  rw [List.map_append, List.flatMap_append]
  rfl
theorem outside_go (b : Nat) (l0 : List UInt8) (w : World) (h : At w b l0) (hl : l0.length ≤ 100000) (hE : Env w) (hb5 : 5 ≤ b) (R : Option (List PT × List UInt8)) (hR : outGo (l0.length + 1) l0 [] = R) : Calls Tryz.prog 30 #[.pointer (some ⟨b, 0, none⟩)] w (OuPost b R w) := by
  have HE := Lib.hid hE
  have HR := Lib.hid hR
  have hz := h.2.2
  obtain ⟨i5, hi5, hz50, hz51, hz52⟩ := info_parts tree_info
  have HSP := Lib.hid (spaces_any b l0 w h)
  have HSQ : Hid (∀ (l : List UInt8) (W : World), At W b l → Calls Tryz.prog 46 #[.pointer (some ⟨b, 0, none⟩)] W fun e w' => e = .returned (.bool (decide ((trimX l).length < l.length))) ∧ Mv b (trimX l) W w') := Lib.hid fun l W hW => spaces_any b l W hW
  have HTQ : Hid (∀ (l : List UInt8) (W : World), At W b l → Calls Tryz.prog 47 #[.pointer (some ⟨b, 0, none⟩), .string ⟨#[60, 33, 45, 45]⟩] W (TkPost b cmB l W)) := Lib.hid fun l W hW => take_any b l cmB W hW
  clear h hE hR
  go_enter Tryz.func30, Tryz.ntmps30
  go_wp2_with fail
  refine HSP.out.mono ?_
  rintro e w1 ⟨rfl, hm⟩
  have HM1 := Lib.hid hm
  clear hm HSP
  go_wp2
  go_loopw [3] (fun s3 wx => ∃ (l : List UInt8) (V : List (List UInt8)) (f m : Nat) (A : Option Addr) (c : Nat), s3 = .slice A m c ∧ l.length < f ∧ l.length ≤ l0.length ∧ m + l.length ≤ l0.length ∧ Hid (V.length = m) ∧ Hid (outGo f l (V.map cmP) = R) ∧ Hid (Mv b (trimX l) w wx) ∧ Hid (wx.ownsRow w.heap.size 27 5 (.slice A m c) m (rowT (V.map cmT)))) (fun _ wx => leftLen b wx)
  case atStart => exact ⟨l0, [], l0.length + 1, 0, none, 0, rfl, by omega, by omega, by omega, Lib.hid rfl, HR, HM1, Lib.hid (World.ownsRow_nil _ _ _ _)⟩
  case round =>
    obtain ⟨l, V, f, m, A, c, rfl, hf, hll, hml, HLM, HF, HM, HO⟩ := hrel
    obtain ⟨f, rfl⟩ : ∃ f', f = f' + 1 := ⟨f - 1, by omega⟩
    have HAT := Lib.hid HM.out.here
    have HLL := Lib.hid (leftLen_at HAT.out)
    have htl := trimX_le l
    have hst := HF.out
    unfold outGo at hst
    have HST := Lib.hid hst
    have hgz := HM.out.grow
    clear hst HF HR HM1
    obtain ⟨t, ht⟩ : ∃ t, trimX l = t := ⟨_, rfl⟩
    rw [ht] at HM HAT HLL htl HST
    clear ht
    go_wp2_with fail
    refine (HTQ.out t _ HAT.out).mono ?_
    intro e w3 hk
    unfold TkPost at hk
    cases hsq : stripX cmB t with
    | none =>
      rw [hsq] at hk
      obtain ⟨rfl, hm⟩ := hk
      have HN : Hid (R = some (V.map cmP, t)) := Lib.hid (by have h := HST.out; rw [show ([60, 33, 45, 45] : List UInt8) = cmB from rfl, hsq] at h; exact h.symm)
      have HM3 := Lib.hid (HM.out.trans hm)
      have HO3 := Lib.hid (hm.own HO.out hz)
      clear hm HST hsq HM HO HAT
      go_wp2
      go_ret
      rw [HN.out]
      exact ⟨⟨V, A, c, rfl, by rw [HLM.out]; rfl, by rw [HLM.out]; exact HO3.out⟩, HM3.out⟩
    | some r =>
      rw [hsq] at hk
      obtain ⟨rfl, hm⟩ := hk
      have hlr := strip_len hsq
      have hlen : cmB.length = 4 := by rfl
      rw [hlen] at hlr
      have hst := HST.out
      rw [show ([60, 33, 45, 45] : List UInt8) = cmB from rfl, hsq] at hst
      simp only at hst
      have HST2 := Lib.hid hst
      have HM3 := Lib.hid (HM.out.trans hm)
      have HA3 := Lib.hid hm.here
      have HO3 := Lib.hid (hm.own HO.out hz)
      have z3 : w.heap.size ≤ w3.heap.size := Nat.le_trans hgz hm.grow
      have HCM : Hid (Calls Tryz.prog 48 #[.pointer (some ⟨b, 0, none⟩)] w3 (CmPost b r w3)) := Lib.hid (by
        obtain ⟨_, ⟨v, hv⟩, _⟩ := HE.out.mv HM3.out hb5
        exact comment_any b r w3 HA3.out (by omega) v hv (by omega))
      clear hm hst hsq HST HM HO HAT hlen
      go_wp2_with fail
      refine HCM.out.mono ?_
      intro e w5 hrf
      unfold CmPost at hrf
      cases hcf : commentL r with
      | none =>
        rw [hcf] at hrf
        obtain ⟨rfl, hm⟩ := hrf
        obtain ⟨l', hm⟩ := hm
        have HN : Hid (R = none) := Lib.hid (by have h := HST2.out; rw [hcf] at h; exact h.symm)
        have HM5 := Lib.hid (HM3.out.trans hm)
        clear hm HST2 hcf
        go_wp2
        rw [HN.out]
        exact ⟨rfl, rfl, _, HM5.out⟩
      | some x =>
        obtain ⟨u, rest⟩ := x
        rw [hcf] at hrf
        obtain ⟨he, hm⟩ := hrf
        unfold TreeV at he
        subst he
        have hst := HST2.out
        rw [hcf] at hst
        simp only at hst
        have HN : Hid (outGo f rest ((V ++ [u]).map cmP) = R) := Lib.hid (by rw [List.map_append]; exact hst)
        have c2 := comment_len hcf
        have HM5 := Lib.hid (HM3.out.trans hm)
        have HO5 := Lib.hid (hm.own HO3.out hz)
        have z5 : w.heap.size ≤ w5.heap.size := Nat.le_trans z3 hm.grow
        clear hm hst HST2 hcf HM3 HA3 HO3 HCM
        go_wp2_with (first
          | (at_builtin
             refine wpList_append_any _ rfl (.tmp 8) (.tmp 11) _ rfl w.heap.size 27 i5 _ 5 88 Tryz.underlying25 hi5 hz50 hz51 hz52 rfl (by omega) (.slice A m c) m (rowT (V.map cmT)) rfl (own_below HO5.out (ba (Below.refl _ _))) (w5.heap.size + 1) (some ⟨w5.heap.size, 0, none⟩) 1 1 (cmC u) rfl ⟨rfl, fun _ => ⟨_, rfl, by simp, five_at _ _ (by simp) _ _ _ _ _ _⟩⟩ (cmC_one u) (by simp only [maxLen]; omega) (by omega) (by simp; omega) ?_
             intro v9 w9 hown9 hg9 hat9
             obtain ⟨A9, c9, rfl⟩ := own_slice hown9
             have HO9 := Lib.hid hown9
             have HG9 := Lib.hid hg9
             clear hown9 hg9 hat9)
          | fail)
        have HGR : Hid (∀ k, (Value.slice A m c).ownBlock = some k → w.heap.size ≤ k) := Lib.hid fun k hk => (own_lt HO5.out hk).1
        have HM9 : Hid (Mv b rest w w9) := Lib.hid ((HM5.out.below (ba (Below.refl _ _))).grown HG9.out (fun k hk => by have := HGR.out k hk; omega))
        have HA9 := Lib.hid HM9.out.here
        go_wp2_with fail
        refine (HSQ.out rest _ HA9.out).mono ?_
        rintro e w10 ⟨rfl, hm⟩
        have HM10 := Lib.hid (HM9.out.trans hm)
        have HO10 := Lib.hid (hm.own HO9.out hz)
        have HL10 := Lib.hid (leftLen_at HM10.out.here)
        have htr := trimX_le rest
        clear hm
        go_wp2
        go_roundw
        case rel => exact ⟨rest, V ++ [u], f, m + 1, A9, c9, rfl, by omega, by omega, by omega, Lib.hid (by rw [List.length_append, HLM.out]; rfl), HN, HM10, Lib.hid (by rw [rowC_snoc]; exact HO10.out)⟩
        case measure => rw [HL10.out, HLL.out]; omega
end Go.Proofs.YtpdaldpaceolnaaGreatDoor
namespace Go.Proofs.YtpdaldpaceolnaaGreatDoor
open Go.RowKit Go.Lib
set_option maxRecDepth 100000
set_option maxHeartbeats 4000000
theorem name_isValid {n : List UInt8} (h : nameX n = true) : validX n = true := by
  unfold nameX at h
  rw [Bool.and_eq_true] at h
  exact h.1
theorem strip_split {p l r : List UInt8} (h : stripX p l = some r) : l = p ++ r := by
  unfold stripX at h
  split at h
  · rename_i hh
    cases h
    have ht := prefix_take hh
    have := List.take_append_drop p.length l
    rw [ht] at this
    exact this.symm
  · cases h
theorem close_valid {n l r : List UInt8} (hn : nameX n = true) (hv : validX l = true) (h : stripX (60 :: 47 :: n) l = some r) : validX r = true ∧ r.length < l.length := by
  have hs := strip_split h
  have hl := congrArg List.length hs
  rw [hs, List.cons_append, List.cons_append] at hv
  have h1 := (vx_behind 60 _ (by decide) hv).2
  have h2 := (vx_behind 47 _ (by decide) h1).2
  rw [validX_append _ (name_isValid hn)] at h2
  refine ⟨h2, ?_⟩
  simp only [List.length_append, List.length_cons] at hl
  omega
theorem textGo_valid : ∀ (f : Nat) (l acc a r : List UInt8), validX l = true → textGo f l acc = some (a, r) → validX r = true ∧ r.length ≤ l.length
  | 0, _, _, _, _, _, h => by cases h
  | f + 1, l, acc, a, r, hv, h => by
    unfold textGo at h
    cases h1 : stripX cdataB l with
    | some r1 =>
      rw [h1] at h
      simp only at h
      obtain ⟨a1, b1⟩ := strip_valid (by decide) hv h1
      cases h3 : upL [93, 93, 62] r1 with
      | none => rw [h3] at h; cases h
      | some x =>
        obtain ⟨m, rest⟩ := x
        rw [h3] at h
        simp only at h
        obtain ⟨_, c1, c2⟩ := up_valid (by decide) (by decide) a1 h3
        obtain ⟨d1, d2⟩ := textGo_valid f rest _ a r c1 h
        exact ⟨d1, by omega⟩
    | none =>
      rw [h1] at h
      simp only at h
      cases h2 : stripX [38] l with
      | some r1 =>
        rw [h2] at h
        simp only at h
        obtain ⟨a1, b1⟩ := strip_valid (by decide) hv h2
        cases h3 : cutF r1 with
        | none => rw [h3] at h; cases h
        | some x =>
          obtain ⟨m, rest⟩ := x
          rw [h3] at h
          simp only at h
          obtain ⟨c1, _⟩ := cutF_len h3
          obtain ⟨d1, d2⟩ := textGo_valid f rest _ a r (cutF_valid a1 h3) h
          exact ⟨d1, by omega⟩
      | none =>
        rw [h2] at h
        simp only at h
        split at h
        · cases h
          exact ⟨hv, Nat.le_refl _⟩
        · split at h
          · cases h
          · obtain ⟨a1, b1⟩ := cutAny_valid [60, 38] (by decide) l hv
            obtain ⟨d1, d2⟩ := textGo_valid f _ _ a r a1 h
            exact ⟨d1, by omega⟩
theorem attrsGo_valid : ∀ (f : Nat) (l : List UInt8) (acc ps : List (List UInt8 × List UInt8)) (r : List UInt8), validX l = true → attrsGo f l acc = some (ps, r) → validX r = true ∧ r.length ≤ l.length
  | 0, _, _, _, _, _, h => by cases h
  | f + 1, l, acc, ps, r, hv, h => by
    unfold attrsGo at h
    have ht := trim_valid l hv
    have htl := trimX_le l
    split at h
    · cases h1 : nameL (trimX l) with
      | none => rw [h1] at h; cases h
      | some x =>
        obtain ⟨n, r1⟩ := x
        rw [h1] at h
        simp only at h
        obtain ⟨a1, a2, a3, a4⟩ := name_valid ht h1
        split at h
        · cases h
        · cases h2 : stripX [61] (trimX r1) with
          | none => rw [h2] at h; cases h
          | some r2 =>
            rw [h2] at h
            simp only at h
            have t1 := trimX_le r1
            obtain ⟨b1, b2⟩ := strip_valid (by decide) (trim_valid r1 a1) h2
            cases h3 : valueL (trimX r2) with
            | none => rw [h3] at h; cases h
            | some y =>
              obtain ⟨v, r3⟩ := y
              rw [h3] at h
              simp only at h
              have t2 := trimX_le r2
              obtain ⟨c1, c2⟩ := value_valid (trim_valid r2 b1) h3
              obtain ⟨d1, d2⟩ := attrsGo_valid f r3 _ ps r c1 h
              exact ⟨d1, by omega⟩
    · cases h
      exact ⟨ht, htl⟩
theorem textL_valid {l : List UInt8} {ks : List PT} {r : List UInt8} (hv : validX l = true) (h : textL l = some (ks, r)) : validX r = true ∧ r.length ≤ l.length := by
  unfold textL at h
  cases hg : textGo (l.length + 1) l [] with
  | none => rw [hg] at h; cases h
  | some x =>
    obtain ⟨a, r'⟩ := x
    rw [hg] at h
    cases h
    exact textGo_valid _ _ _ _ _ hv hg
theorem ek_valid : ∀ f : Nat, (∀ (o : Nat) (l : List UInt8) (t : PT) (r : List UInt8), validX l = true → elemGo f o l = .ok t r → validX r = true ∧ r.length < l.length) ∧ (∀ (o : Nat) (l : List UInt8) (acc ks : List PT) (r : List UInt8), validX l = true → kidsGo f o l acc = .ok ks r → validX r = true ∧ r.length ≤ l.length) := by
  intro f
  induction f with
  | zero => exact ⟨fun o l t r _ h => (by unfold elemGo at h; cases h), fun o l acc ks r _ h => (by unfold kidsGo at h; cases h)⟩
  | succ f ih =>
    obtain ⟨ihe, ihk⟩ := ih
    constructor
    · intro o l t r hv h
      unfold elemGo at h
      cases h1 : stripX [60] l with
      | none => rw [h1] at h; cases h
      | some r0 =>
        rw [h1] at h
        simp only at h
        obtain ⟨a1, a2⟩ := strip_valid (by decide) hv h1
        simp only [List.length_cons, List.length_nil] at a2
        cases h2 : nameL r0 with
        | none => rw [h2] at h; cases h
        | some x =>
          obtain ⟨n, r1⟩ := x
          rw [h2] at h
          simp only at h
          obtain ⟨b1, b2, b3, b4⟩ := name_valid a1 h2
          split at h
          · cases h
          · cases h3 : attrsGo (r1.length + 1) r1 [] with
            | none => rw [h3] at h; cases h
            | some y =>
              obtain ⟨ps, r2⟩ := y
              rw [h3] at h
              simp only at h
              obtain ⟨c1, c2⟩ := attrsGo_valid _ _ _ _ _ b1 h3
              cases h4 : stripX [47, 62] r2 with
              | some r3 =>
                rw [h4] at h
                simp only at h
                cases h
                obtain ⟨d1, d2⟩ := strip_valid (by decide) c1 h4
                exact ⟨d1, by omega⟩
              | none =>
                rw [h4] at h
                simp only at h
                cases h5 : stripX [62] r2 with
                | none => rw [h5] at h; cases h
                | some r3 =>
                  rw [h5] at h
                  simp only at h
                  obtain ⟨d1, d2⟩ := strip_valid (by decide) c1 h5
                  cases h6 : textL r3 with
                  | none => rw [h6] at h; cases h
                  | some z =>
                    obtain ⟨ks, r4⟩ := z
                    rw [h6] at h
                    simp only at h
                    obtain ⟨e1, e2⟩ := textL_valid d1 h6
                    cases h7 : kidsGo f (o + 1) r4 ks with
                    | bad => rw [h7] at h; cases h
                    | nest => rw [h7] at h; cases h
                    | ok ks2 r5 =>
                      rw [h7] at h
                      simp only at h
                      obtain ⟨f1, f2⟩ := ihk _ _ _ _ _ e1 h7
                      cases h8 : stripX (60 :: 47 :: n) r5 with
                      | none => rw [h8] at h; cases h
                      | some r6 =>
                        rw [h8] at h
                        simp only at h
                        obtain ⟨g1, g2⟩ := close_valid b4 f1 h8
                        have t6 := trimX_le r6
                        cases h9 : stripX [62] (trimX r6) with
                        | none => rw [h9] at h; cases h
                        | some r7 =>
                          rw [h9] at h
                          simp only at h
                          cases h
                          obtain ⟨i1, i2⟩ := strip_valid (by decide) (trim_valid r6 g1) h9
                          exact ⟨i1, by omega⟩
    · intro o l acc ks r hv h
      unfold kidsGo at h
      split at h
      · cases h
        exact ⟨hv, Nat.le_refl _⟩
      · cases h1 : stripX [60, 33, 45, 45] l with
        | some r0 =>
          rw [h1] at h
          simp only at h
          obtain ⟨a1, a2⟩ := strip_valid (by decide) hv h1
          cases h2 : commentL r0 with
          | none => rw [h2] at h; cases h
          | some x =>
            obtain ⟨v, r2⟩ := x
            rw [h2] at h
            simp only at h
            have b1 := comment_valid a1 h2
            have b2 := comment_len h2
            cases h3 : textL r2 with
            | none => rw [h3] at h; cases h
            | some y =>
              obtain ⟨ts, r3⟩ := y
              rw [h3] at h
              simp only at h
              obtain ⟨c1, c2⟩ := textL_valid b1 h3
              obtain ⟨d1, d2⟩ := ihk _ _ _ _ _ c1 h
              exact ⟨d1, by omega⟩
        | none =>
          rw [h1] at h
          simp only at h
          cases h2 : elemGo f o l with
          | bad => rw [h2] at h; cases h
          | nest => rw [h2] at h; cases h
          | ok t r2 =>
            rw [h2] at h
            simp only at h
            obtain ⟨b1, b2⟩ := ihe _ _ _ _ hv h2
            cases h3 : textL r2 with
            | none => rw [h3] at h; cases h
            | some y =>
              obtain ⟨ts, r3⟩ := y
              rw [h3] at h
              simp only at h
              obtain ⟨c1, c2⟩ := textL_valid b1 h3
              obtain ⟨d1, d2⟩ := ihk _ _ _ _ _ c1 h
              exact ⟨d1, by omega⟩
end Go.Proofs.YtpdaldpaceolnaaGreatDoor
