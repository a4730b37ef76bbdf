/- A whole document; line ends; the deferred call; Parse. No condition beyond what the theorems state. -/
import Derived.Test.YtpdaldpaceolnaaGreatDoorElement
import Derived.Defers
import Derived.Recover
import Derived.Test.YtpdaldpaceolnaaGreatDoorWords
import Derived.Test.YtpdaldpaceolnaaGreatDoorValid
import Derived.Lib.IndexMore
namespace Go.Proofs.YtpdaldpaceolnaaGreatDoor
open Go.RowKit Go.Lib
set_option maxRecDepth 100000
set_option maxHeartbeats 8000000
theorem outGo_valid : ∀ (f : Nat) (l : List UInt8) (acc ts : List PT) (r : List UInt8), validX l = true → outGo f l acc = some (ts, r) → validX r = true ∧ r.length ≤ l.length
  | 0, _, _, _, _, _, h => by cases h
  | f + 1, l, acc, ts, r, hv, h => by
    unfold outGo at h
    have ht := trim_valid l hv
    have htl := trimX_le l
    cases h1 : stripX [60, 33, 45, 45] (trimX l) with
    | none =>
      rw [h1] at h
      simp only at h
      cases h
      exact ⟨ht, htl⟩
    | some r0 =>
      rw [h1] at h
      simp only at h
      obtain ⟨a1, a2⟩ := strip_valid (by decide) ht h1
      cases h2 : commentL r0 with
      | none => rw [h2] at h; cases h
      | some x =>
        obtain ⟨v, r2⟩ := x
        rw [h2] at h
        simp only at h
        have b2 := comment_len h2
        obtain ⟨d1, d2⟩ := outGo_valid f r2 _ ts r (comment_valid a1 h2) h
        exact ⟨d1, by omega⟩
theorem out_len : ∀ (f : Nat) (l : List UInt8) (acc ts : List PT) (r : List UInt8), outGo f l acc = some (ts, r) → ts.length + r.length ≤ acc.length + l.length
  | 0, _, _, _, _, h => by cases h
  | f + 1, l, acc, ts, r, h => by
    unfold outGo at h
    have htl := trimX_le l
    cases h1 : stripX [60, 33, 45, 45] (trimX l) with
    | none =>
      rw [h1] at h
      simp only at h
      cases h
      omega
    | some r0 =>
      rw [h1] at h
      simp only at h
      have a2 := strip_len h1
      simp only [List.length_cons, List.length_nil] at a2
      cases h2 : commentL r0 with
      | none => rw [h2] at h; cases h
      | some x =>
        obtain ⟨v, r2⟩ := x
        rw [h2] at h
        simp only at h
        have b2 := comment_len h2
        have := out_len f r2 _ ts r h
        rw [List.length_append, List.length_cons, List.length_nil] at this
        omega
theorem plL_cm (V : List (List UInt8)) : plL (V.map cmT) = V.map cmP := by rw [plL_map, List.map_map]; rfl
theorem inl_cm (P : Nat → Prop) (w : World) (V : List (List UInt8)) : InL P w (V.map cmT) := inL_iff.2 fun t ht => by
  obtain ⟨v, _, rfl⟩ := List.mem_map.1 ht
  exact leaf_in P w 5 [] v
theorem caps_cm (V : List (List UInt8)) : CapsL (V.map cmT) := by
  have h := caps_app (a := []) (c := V.map cmT) trivial fun t ht => by obtain ⟨v, _, rfl⟩ := List.mem_map.1 ht; exact leaf_caps 5 [] v
  rw [List.nil_append] at h
  exact h
theorem rowT_one (L : List Tr) : ∀ u ∈ rowT L, u.oneCell' = true := by
  intro u hu
  unfold rowT at hu
  obtain ⟨t, _, h⟩ := List.mem_flatMap.1 hu
  exact cells_one t u h
theorem document_any (b : Nat) (l : List UInt8) (w : World) (h : At w b l) (hl : l.length ≤ 100000) (hv : validX l = true) (hE : Env w) (hb5 : 5 ≤ b) (R : XR PT) (hR : docF l = R) : Calls Tryz.prog 18 #[.pointer (some ⟨b, 0, none⟩)] w (ElPost b R w) := by
  unfold docF outL at hR
  have HE := Lib.hid hE
  have HV := Lib.hid hv
  have hz := h.2.2
  obtain ⟨i5, hi5, hz50, hz51, hz52⟩ := info_parts tree_info
  obtain ⟨W1, hW1⟩ : ∃ W1, w.alloc (.cells #[.int .i64 0, .string ⟨#[]⟩, .string ⟨#[]⟩, .slice none 0 0, .slice none 0 0] 27) = W1 := ⟨_, rfl⟩
  have HM0 : Hid (Mv b l w W1) := Lib.hid (by rw [← hW1]; exact (Mv.refl h).below (ba (Below.refl _ _)))
  have a0 : W1.cell? ⟨w.heap.size, 0, none⟩ = some (.int .i64 0) := by rw [← hW1]; simp
  have a1 : W1.cell? ⟨w.heap.size, 1, none⟩ = some (.string ⟨#[]⟩) := by rw [← hW1]; simp
  have a2 : W1.cell? ⟨w.heap.size, 2, none⟩ = some (.string ⟨#[]⟩) := by rw [← hW1]; simp
  have a3 : W1.cell? ⟨w.heap.size, 3, none⟩ = some (.slice none 0 0) := by rw [← hW1]; simp
  have a4 : W1.cell? ⟨w.heap.size, 4, none⟩ = some (.slice none 0 0) := by rw [← hW1]; simp
  have af : ∀ o, W1.frozen? ⟨w.heap.size, o, none⟩ = false := by intro o; rw [← hW1]; simp
  have az : W1.heap.size = w.heap.size + 1 := by rw [← hW1]; simp
  have HZ : Hid (∀ W x, Mv b x W1 W → W.cell? ⟨w.heap.size, 0, none⟩ = some (.int .i64 0) ∧ W.cell? ⟨w.heap.size, 1, none⟩ = some (.string ⟨#[]⟩) ∧ W.cell? ⟨w.heap.size, 2, none⟩ = some (.string ⟨#[]⟩) ∧ W.cell? ⟨w.heap.size, 3, none⟩ = some (.slice none 0 0) ∧ W.cell? ⟨w.heap.size, 4, none⟩ = some (.slice none 0 0) ∧ (∀ o, W.frozen? ⟨w.heap.size, o, none⟩ = false) ∧ w.heap.size < W.heap.size) := Lib.hid fun W x hm =>
    ⟨(hm.cell (by simp only; omega) (by simp only; omega)).trans a0, (hm.cell (by simp only; omega) (by simp only; omega)).trans a1, (hm.cell (by simp only; omega) (by simp only; omega)).trans a2, (hm.cell (by simp only; omega) (by simp only; omega)).trans a3, (hm.cell (by simp only; omega) (by simp only; omega)).trans a4, fun o => (hm.frozen (by simp only; omega) (by simp only; omega)).trans (af o), by have := hm.grow; omega⟩
  obtain ⟨TO, hTO⟩ : ∃ TO, outGo (l.length + 1) l [] = TO := ⟨_, rfl⟩
  rw [hTO] at hR
  have HR := Lib.hid hR
  have HTO := Lib.hid hTO
  have hbW : b < W1.heap.size := by omega
  have HOU := Lib.hid (outside_go b l W1 HM0.out.here hl (hE.mv HM0.out hb5) hb5 TO hTO)
  have HW1 := Lib.hid hW1
  have HMW := Lib.hid (Mv.refl HM0.out.here)
  clear h hE hR hv a0 a1 a2 a3 a4 af hW1 hTO
  go_enter Tryz.func18, Tryz.ntmps18
  go_wp2_with fail
  rw [HW1.out]
  refine HOU.out.mono ?_
  intro e w2 htx
  unfold OuPost at htx
  cases TO with
  | none =>
    obtain ⟨rfl, l', hm⟩ := htx
    have HN : Hid (R = .bad) := Lib.hid HR.out.symm
    have HM2 := Lib.hid (HM0.out.trans hm)
    clear hm HR
    go_wp2
    rw [HN.out]
    exact ⟨rfl, rfl, _, HM2.out⟩
  | some x =>
    obtain ⟨ts, r⟩ := x
    obtain ⟨⟨V, A, c, hts, rfl, hox⟩, hm⟩ := htx
    obtain ⟨hvr, hlr⟩ := outGo_valid _ _ _ _ _ HV.out HTO.out
    have hVl : V.length ≤ 200000 := by
      have h1 := out_len _ _ _ _ _ HTO.out
      rw [hts, List.length_map, List.length_nil] at h1
      omega
    have hst := HR.out
    simp only at hst
    subst hts
    have HST := Lib.hid hst
    have HVR := Lib.hid hvr
    have HM2 := Lib.hid (HM0.out.trans hm)
    have HK2 := Lib.hid (HMW.out.trans hm)
    have hgm := hm.grow
    obtain ⟨m, hmm⟩ : ∃ m, V.length = m := ⟨_, rfl⟩
    rw [hmm] at hox hVl ⊢
    have HLM : Hid ((V.map cmT).length = m) := Lib.hid (by rw [List.length_map]; exact hmm)
    have HO2 := Lib.hid hox
    have HI2 : Hid (InL (KB W1.heap.size (.slice A m c) w2) w2 (V.map cmT)) := Lib.hid (inl_cm _ _ _)
    have HPV : Hid (plL (V.map cmT) = V.map cmP) := Lib.hid (plL_cm V)
    have HCV := Lib.hid (caps_cm V)
    obtain ⟨L, hL⟩ : ∃ L, V.map cmT = L := ⟨_, rfl⟩
    rw [hL] at HLM HO2 HI2 HPV HCV
    have HRL := Lib.hid (element_any b (2 * r.length + 2) 0 r w2 HM2.out.here (by omega) hvr (HE.out.mv HM2.out hb5) hb5 (by omega) (by omega))
    clear hm hst hox hvr hmm hL HR HM0 HMW HTO HOU
    go_wp2_with fail
    refine HRL.out.mono ?_
    intro e w5 hrf
    unfold ElPost at hrf
    cases hcf : elemGo (2 * r.length + 2) 0 r with
    | bad =>
      rw [hcf] at hrf
      obtain ⟨rfl, l', hm⟩ := hrf
      have HN : Hid (R = .bad) := Lib.hid (by have h := HST.out; rw [hcf] at h; exact h.symm)
      have HM5 := Lib.hid (HM2.out.trans hm)
      clear hm HST hcf
      go_wp2
      rw [HN.out]
      exact ⟨rfl, rfl, _, HM5.out⟩
    | nest =>
      rw [hcf] at hrf
      obtain ⟨rfl, l', hm⟩ := hrf
      have HN : Hid (R = .nest) := Lib.hid (by have h := HST.out; rw [hcf] at h; exact h.symm)
      have HM5 := Lib.hid (HM2.out.trans hm)
      clear hm HST hcf
      go_wp2
      rw [HN.out]
      exact ⟨rfl, rfl, _, HM5.out⟩
    | ok t rest =>
      rw [hcf] at hrf
      obtain ⟨⟨t2, he, hpl, hin, hcp⟩, hm⟩ := hrf
      have hst := HST.out
      rw [hcf] at hst
      simp only at hst
      rw [← hpl] at hst
      obtain ⟨e1, e2⟩ := (ek_valid _).1 0 r t rest HVR.out hcf
      have HVT := Lib.hid e1
      have HM5 := Lib.hid (HM2.out.trans hm)
      have HK5 := Lib.hid (HK2.out.trans hm)
      have HO5 := Lib.hid (hm.own HO2.out hbW)
      have HI5 := Lib.hid (inl_app (c := [t2]) (inl_mv HI2.out hm hbW) (inL_iff.2 fun x hx => by
        obtain rfl : x = t2 := by simpa using hx
        exact new_kb hin hgm fun k hk => (own_lt HO2.out hk).2))
      have HCE := Lib.hid (cells_one t2)
      have HCP := Lib.hid (capsL_snoc HCV.out hcp)
      have z5 : W1.heap.size ≤ w5.heap.size := Nat.le_trans hgm hm.grow
      obtain ⟨q1, q2, q3, q4, q5, q6, q7, q8, q9⟩ := t2
      unfold Tr.v at he
      subst he
      obtain ⟨T2, hT2⟩ : ∃ T2, outGo (rest.length + 1) rest [] = T2 := ⟨_, rfl⟩
      rw [hT2] at hst
      have HT2 := Lib.hid hT2
      have HST2 := Lib.hid hst
      clear hm hst HST hcf HM2 HK2 HO2 HI2 HRL e1 hpl hin hcp hT2
      go_wp2_with (first
        | (at_builtin
           refine wpList_append_any _ rfl (.tmp 6) (.tmp 9) _ rfl W1.heap.size 27 i5 _ 5 88 Tryz.underlying25 hi5 hz50 hz51 hz52 rfl (by omega) (.slice A m c) m (rowT L) rfl (own_below HO5.out (ba (Below.refl _ _))) (w5.heap.size + 1) (some ⟨w5.heap.size, 0, none⟩) 1 1 (Tr.cells (Tr.mk q1 q2 q3 q4 q5 q6 q7 q8 q9)) rfl ⟨rfl, fun _ => ⟨_, rfl, by simp, five_at _ _ (by simp) _ _ _ _ _ _⟩⟩ HCE.out (by simp only [maxLen]; omega) (by omega) (by simp; omega) ?_
           intro v9 w9 hown9 hg9 hat9
           obtain ⟨A9, c9, rfl⟩ := own_slice hown9
           have HO9 := Lib.hid hown9
           have HG9 := Lib.hid hg9
           have HT9 := Lib.hid hat9
           clear hown9 hg9 hat9)
        | fail)
      have HGR : Hid (∀ k, (Value.slice A m c).ownBlock = some k → W1.heap.size ≤ k) := Lib.hid fun k hk => (own_lt HO5.out hk).1
      have HM9 : Hid (Mv b rest w w9) := Lib.hid ((HM5.out.below (ba (Below.refl _ _))).grown HG9.out (fun k hk => by have := HGR.out k hk; omega))
      have HK9 : Hid (Mv b rest W1 w9) := Lib.hid ((HK5.out.below (ba (Below.refl _ _))).grown HG9.out (fun k hk => by have := HGR.out k hk; omega))
      have HI9 : Hid (InL (KB W1.heap.size (.slice A9 (m + 1) c9) w9) w9 (L ++ [Tr.mk q1 q2 q3 q4 q5 q6 q7 q8 q9])) := Lib.hid (inl_grown (v := .slice A m c) (inl_mv HI5.out (Mv.of_below HM5.out.here (ba (Below.refl _ _))) hbW) HG9.out HT9.out)
      have HO9' : Hid (w9.ownsRow W1.heap.size 27 5 (.slice A9 (m + 1) c9) (m + 1) (rowT (L ++ [Tr.mk q1 q2 q3 q4 q5 q6 q7 q8 q9]))) := Lib.hid (by rw [rowT_snoc]; exact HO9.out)
      have z9 : W1.heap.size ≤ w9.heap.size := HK9.out.grow
      have HLS : Hid ((L ++ [Tr.mk q1 q2 q3 q4 q5 q6 q7 q8 q9]).length = m + 1) := Lib.hid (by rw [List.length_append, HLM.out]; rfl)
      have HTX := Lib.hid (outside_go b rest w9 HM9.out.here (by omega) (HE.out.mv HM9.out hb5) hb5 T2 HT2.out)
      clear HG9 HT9 HGR HO9 HM5 HK5 HO5 HI5
      go_wp2_with fail
      refine HTX.out.mono ?_
      intro e w10 htx
      unfold OuPost at htx
      cases T2 with
      | none =>
        obtain ⟨rfl, l', hm⟩ := htx
        have HN : Hid (R = .bad) := Lib.hid HST2.out.symm
        have HM10 := Lib.hid (HM9.out.trans hm)
        clear hm HST2 HTX HT2
        go_wp2
        rw [HN.out]
        exact ⟨rfl, rfl, _, HM10.out⟩
      | some x =>
        obtain ⟨ts2, r3⟩ := x
        obtain ⟨⟨V2, AX, cX, hts2, rfl, hox⟩, hm⟩ := htx
        have hVl2 : V2.length ≤ 200000 := by
          have h1 := out_len _ _ _ _ _ HT2.out
          rw [hts2, List.length_map, List.length_nil] at h1
          omega
        have hst := HST2.out
        simp only at hst
        subst hts2
        have HST3 := Lib.hid hst
        have HM10 := Lib.hid (HM9.out.trans hm)
        have HK10 := Lib.hid (HK9.out.trans hm)
        have HO10 := Lib.hid (hm.own HO9'.out hbW)
        have HI10 := Lib.hid (inl_mv HI9.out hm hbW)
        obtain ⟨m2, hm2⟩ : ∃ m2, V2.length = m2 := ⟨_, rfl⟩
        rw [hm2] at hox hVl2 ⊢
        have HLM2 : Hid ((V2.map cmT).length = m2) := Lib.hid (by rw [List.length_map]; exact hm2)
        have HOX := Lib.hid hox
        have z10 : W1.heap.size ≤ w10.heap.size := Nat.le_trans z9 hm.grow
        clear hst hm hox HST2 HTX HT2 hm2 HM9 HK9 HO9' HI9
        go_wp2_with (first
          | (at_builtin
             refine wpList_append_any _ rfl (.tmp 11) (.tmp 13) _ rfl W1.heap.size 27 i5 _ 5 88 Tryz.underlying25 hi5 hz50 hz51 hz52 rfl (by omega) (.slice A9 (m + 1) c9) (m + 1) (rowT (L ++ [Tr.mk q1 q2 q3 q4 q5 q6 q7 q8 q9])) rfl HO10.out w10.heap.size AX m2 cX (rowT (V2.map cmT)) rfl (reads_own HOX.out) (rowT_one _) (by simp only [maxLen]; omega) (by omega) (by omega) ?_
             intro v11 w11 hown11 hg11 hat11
             obtain ⟨A11, c11, rfl⟩ := own_slice hown11
             have HO11 := Lib.hid hown11
             have HG11 := Lib.hid hg11
             have HT11 := Lib.hid hat11
             have HGR : Hid (∀ k, (Value.slice A9 (m + 1) c9).ownBlock = some k → W1.heap.size ≤ k) := Lib.hid fun k hk => (own_lt HO10.out hk).1
             have HM11 : Hid (Mv b r3 w w11) := Lib.hid (HM10.out.grown HG11.out (fun k hk => by have := HGR.out k hk; omega))
             have HK11 : Hid (Mv b r3 W1 w11) := Lib.hid (HK10.out.grown HG11.out (fun k hk => by have := HGR.out k hk; omega))
             obtain ⟨k0, k1, k2⟩ := HM11.out.here
             obtain ⟨p0, p1, p2, p3, p4, pf, pz⟩ := HZ.out _ _ HK11.out
             have pf0 := pf 0
             have pf1 := pf 1
             have pf2 := pf 2
             have pf3 := pf 3
             have pf4 := pf 4
             clear hown11 hg11 hat11 pf)
          | fail)
        · rename_i h K a
          have hne : r3 ≠ [] := by
            intro e
            subst e
            rw [toList_ba] at h
            simp at h
          have HN : Hid (R = .bad) := Lib.hid (by have h := HST3.out; rw [if_neg hne] at h; exact h.symm)
          refine (fail_any _ _).mono ?_
          rintro e w12 ⟨rfl, rfl⟩
          go_wp2
          rw [HN.out]
          exact ⟨rfl, rfl, _, HM11.out⟩
        · rename_i h
          have he : r3 = [] := by
            rw [toList_ba] at h
            simpa using h
          have HLT : Hid ((L ++ [Tr.mk q1 q2 q3 q4 q5 q6 q7 q8 q9] ++ V2.map cmT).length = m + 1 + m2) := Lib.hid (by rw [List.length_append, HLS.out, HLM2.out])
          have HN : Hid (R = .ok (.mk 1 [] [] [] (plL (L ++ [Tr.mk q1 q2 q3 q4 q5 q6 q7 q8 q9] ++ V2.map cmT))) r3) := Lib.hid (by
            have h := HST3.out
            rw [if_pos he] at h
            rw [← h, plL_app, plL_app, HPV.out, plL_cm, he]
            rfl)
          have HOT : Hid (w11.ownsRow W1.heap.size 27 5 (.slice A11 (m + 1 + m2) c11) (m + 1 + m2) (rowT (L ++ [Tr.mk q1 q2 q3 q4 q5 q6 q7 q8 q9] ++ V2.map cmT))) := Lib.hid (by have h := HO11.out; rw [← rowT_app] at h; exact h)
          have HIT : Hid (InL (KB W1.heap.size (.slice A11 (m + 1 + m2) c11) w11) w11 (L ++ [Tr.mk q1 q2 q3 q4 q5 q6 q7 q8 q9] ++ V2.map cmT)) := Lib.hid (inl_app (inl_grown HI10.out HG11.out HT11.out) (inl_cm _ _ _))
          have HCT : Hid (CapsL (L ++ [Tr.mk q1 q2 q3 q4 q5 q6 q7 q8 q9] ++ V2.map cmT)) := Lib.hid (caps_app HCP.out (capsL_mem (caps_cm V2)))
          obtain ⟨LL, hLL⟩ : ∃ LL, L ++ [Tr.mk q1 q2 q3 q4 q5 q6 q7 q8 q9] ++ V2.map cmT = LL := ⟨_, rfl⟩
          rw [hLL] at HLT HN HOT HIT HCT
          clear HO11 HG11 HT11 HI10 HST3 hLL h
          obtain ⟨W13, hW13⟩ : ∃ W13, put5 w11 w.heap.size (.int .i64 1) (.string ⟨#[]⟩) (.string ⟨#[]⟩) (.slice none 0 0) (.slice A11 (m + 1 + m2) c11) = W13 := ⟨_, rfl⟩
          refine bodyPost_ret (v := .agg #[.int .i64 1, .string ⟨#[]⟩, .string ⟨#[]⟩, .slice none 0 0, .slice A11 (m + 1 + m2) c11]) (by simp [results, Tryz.results18, go_sem, *]) rfl ?_
          have hW13' := hW13
          unfold put5 at hW13'
          rw [hW13', HN.out]
          have hpc : ∀ p : Addr, w.heap.size < p.block → W13.cell? p = w11.cell? p := fun p hp => by rw [← hW13]; exact put5_cell _ _ _ _ _ _ _ p (by omega)
          have hpz : W13.heap.size = w11.heap.size := by rw [← hW13, put5_size]
          refine ⟨⟨.mk 1 [] [] none 0 [] A11 c11 LL, (by show _ = Ending.returned (.agg #[.int .i64 1, .string (ba' []), .string (ba' []), .slice none 0 0, .slice A11 LL.length c11]); rw [HLT.out]; rfl), by rw [Tr.pl], ?_, ?_⟩, ?_⟩
          · rw [Tr.In, HLT.out]
            refine ⟨⟨rfl, fun h => absurd h (by simp)⟩, (rd_own HOT.out).keep (fun k hk => ⟨by have := hk.1; omega, by rw [hpz]; exact hk.2⟩) (fun p hp => hpc p (by have := hp.1; omega)), inL_iff.2 fun t ht => (inL_iff.1 HIT.out t ht).keep (fun k hk => ⟨by have := hk.1; omega, by rw [hpz]; exact hk.2.1⟩) (fun p hp => hpc p (by have := hp.1; omega))⟩
          · rw [Tr.Caps, HLT.out]
            exact ⟨(own_cap HOT.out).1, (own_cap HOT.out).2, HCT.out⟩
          · refine HM11.out.high (B := w.heap.size) ?_ (Nat.le_refl _) hz
            rw [← hW13]
            exact put5_below _ _ _ _ _ _ _
end Go.Proofs.YtpdaldpaceolnaaGreatDoor
namespace Go.Proofs.YtpdaldpaceolnaaGreatDoor
open Go.RowKit Go.Lib
set_option maxRecDepth 100000
set_option maxHeartbeats 8000000
theorem lines_any (s : List UInt8) (hs : s.length ≤ 3000000) (v : Int) (w : World) (hm : w.cell? ⟨2, 0, none⟩ = some (.int .i64 v)) :
    Calls Tryz.prog 17 #[.string (ba' s)] w fun e w' => e = .returned (.string (ba' (linesF s))) ∧ Below w.heap.size w w' := by
  have H1 := Lib.hid (replace_le s [13, 10] [10] hs (.inr rfl) rfl v w hm)
  have hl := replaceAll_len s [13, 10] [10] (by decide)
  have H2 : Hid (∀ W, Below w.heap.size w W → Calls Tryz.prog 29 #[.string (ba' (Lib.replaceAll s [13, 10] [10])), .string ⟨#[13]⟩, .string ⟨#[10]⟩] W fun e w' => e = .returned (.string (ba' (linesF s))) ∧ Below W.heap.size W w') := Lib.hid fun W hW =>
    replace_le _ [13] [10] (by omega) (.inl rfl) rfl v W ((hW.cell (p := ⟨2, 0, none⟩) (World.block_lt_of_cell? w _ hm)).trans hm)
  have H3 : Hid (Calls Tryz.prog 29 #[.string (ba' s), .string ⟨#[13, 10]⟩, .string ⟨#[10]⟩] w fun e w' => e = .returned (.string (ba' (Lib.replaceAll s [13, 10] [10]))) ∧ Below w.heap.size w w') := H1
  clear H1 hl hm
  go_enter Tryz.func17, Tryz.ntmps17
  go_wp2_with fail
  refine H3.out.mono ?_
  rintro e w1 ⟨rfl, hb⟩
  have HB1 := Lib.hid hb
  clear hb
  go_wp2_with fail
  refine (H2.out _ HB1.out).mono ?_
  rintro e w2 ⟨rfl, hb⟩
  have HB2 := Lib.hid (bt HB1.out hb)
  clear hb
  go_wp2
  go_ret
  exact ⟨rfl, HB2.out⟩
end Go.Proofs.YtpdaldpaceolnaaGreatDoor
namespace Go.Proofs.YtpdaldpaceolnaaGreatDoor
open Go.RowKit Go.Lib Go.Extern.Stop Go.Stop Go.Extern
set_option maxRecDepth 100000
set_option maxHeartbeats 8000000
theorem cell_new' {w : World} {o : Obj} {B i : Nat} {v : Value} (h : w.cell? ⟨B, i, none⟩ = some v) : (w.alloc o).cell? ⟨B, i, none⟩ = some v := (World.cell?_alloc_lt w o _ (World.block_lt_of_cell? w _ h)).trans h
theorem froz_new' {w : World} {o : Obj} {B i : Nat} (hB : B < w.heap.size) (h : w.frozen? ⟨B, i, none⟩ = false) : (w.alloc o).frozen? ⟨B, i, none⟩ = false := ((bcell (ba (Below.refl _ w))).2 B i hB).trans h
theorem ta_nil (w : World) : (Instr.typeAssert .nilIface 20 43 true).run Tryz.prog w = .ok (.tuple #[.agg #[.int .i64 0], .bool false]) w := by kernel_rfl
theorem ta_gave (n : Int) (w : World) : (Instr.typeAssert (.iface 43 (.agg #[.int .i64 n])) 20 43 true).run Tryz.prog w = .ok (.tuple #[.agg #[.int .i64 n], .bool true]) w := by kernel_rfl
theorem ne_nil (w : World) : (binOp BinOp.neq 20 .nilIface .nilIface).run Tryz.prog w = .ok (.bool false) w := by kernel_rfl
theorem catch_idle (p q : Addr) (w : World) :
    CallsD Tryz.prog 16 #[.pointer (some p), .pointer (some q)] .returning w fun e u' w' => e = .returned (.tuple #[]) ∧ u' = .returning ∧ w' = w.alloc (.cells #[.int .i64 0] 43) := by
  have h1 := ta_nil
  have h2 := ne_nil
  refine callsD_of_wpS Tryz.func16 rfl fun c cs hu => ?_
  apply wpS_seq
  apply wpS_region
  simp [wpOpsS, go_sem, recoverD, hu, Tryz.ntmps16, Exit.thenS]
  refine wpS_of_wp ?_
  have hm : Tryz.prog.follows .mixedOrders = true := by kernel_rfl
  have hl : Tryz.prog.follows .lateStores = true := by kernel_rfl
  rw [show (#[Value.pointer (some p), Value.pointer (some q)] ++ (((Array.replicate 16 undef).setIfInBounds 3 Value.nilIface).setIfInBounds 0 Value.nilIface)) = #[.pointer (some p), .pointer (some q), .nilIface, undef, undef, .nilIface, undef, undef, undef, undef, undef, undef, undef, undef, undef, undef, undef, undef] from rfl]
  go_wp2
  cases c
  simp_all [bodyPostS, results, Tryz.results16]
def CgI (W : World) (n : Int) (g h z B : Nat) (c2 c4 c5 c6 c7 c8 c9 c10 c11 c15 c16 c17 : Value) (l : Nat → Prop) (A : Act) (w : World) : Prop :=
  ∃ (s12 s13 s14 x0 x1 x2 x3 x4 y0 : Value), A = { tmps := #[.pointer (some ⟨g, 0, none⟩), .pointer (some ⟨h, 0, none⟩), c2, .pointer (some ⟨z, 0, none⟩), c4, c5, c6, c7, c8, c9, c10, c11, s12, s13, s14, c15, c16, c17], defers := [] } ∧ (l 0 → s12 = .agg #[.int .i64 0, .string ⟨#[]⟩, .string ⟨#[]⟩, .slice none 0 0, .slice none 0 0]) ∧ (l 1 → s13 = .pointer (some ⟨z, 0, none⟩)) ∧ (l 2 → s14 = .int .i64 n) ∧
  w.cell? ⟨z, 0, none⟩ = some (.int .i64 n) ∧ (w.cell? ⟨g, 0, none⟩ = some x0 ∧ w.cell? ⟨g, 1, none⟩ = some x1 ∧ w.cell? ⟨g, 2, none⟩ = some x2 ∧ w.cell? ⟨g, 3, none⟩ = some x3 ∧ w.cell? ⟨g, 4, none⟩ = some x4) ∧ w.cell? ⟨h, 0, none⟩ = some y0 ∧
  (w.frozen? ⟨g, 0, none⟩ = false ∧ w.frozen? ⟨g, 1, none⟩ = false ∧ w.frozen? ⟨g, 2, none⟩ = false ∧ w.frozen? ⟨g, 3, none⟩ = false ∧ w.frozen? ⟨g, 4, none⟩ = false) ∧ w.frozen? ⟨h, 0, none⟩ = false ∧
  (l 3 → x0 = .int .i64 0 ∧ x1 = .string ⟨#[]⟩ ∧ x2 = .string ⟨#[]⟩ ∧ x3 = .slice none 0 0 ∧ x4 = .slice none 0 0) ∧ (l 4 → y0 = .int .i64 n) ∧ Below B W w
theorem Cg_region {n : Int} {g h z : Nat} (B : Nat) (hgh : g ≠ h) (ng : g ≠ z) (nh : h ≠ z) (hg : B ≤ g) (hh : B ≤ h) {z12 z13 z14 c2 c4 c5 c6 c7 c8 c9 c10 c11 c15 c16 c17 : Value} {Q : Exit → Act → World → Prop} {W : World} {x0 x1 x2 x3 x4 y0 : Value}
    (e0 : W.cell? ⟨z, 0, none⟩ = some (.int .i64 n)) (c0' : W.cell? ⟨g, 0, none⟩ = some x0) (c1' : W.cell? ⟨g, 1, none⟩ = some x1) (c2' : W.cell? ⟨g, 2, none⟩ = some x2) (c3' : W.cell? ⟨g, 3, none⟩ = some x3) (c4' : W.cell? ⟨g, 4, none⟩ = some x4) (d0' : W.cell? ⟨h, 0, none⟩ = some y0)
    (f0 : W.frozen? ⟨g, 0, none⟩ = false) (f1 : W.frozen? ⟨g, 1, none⟩ = false) (f2 : W.frozen? ⟨g, 2, none⟩ = false) (f3 : W.frozen? ⟨g, 3, none⟩ = false) (f4 : W.frozen? ⟨g, 4, none⟩ = false) (k0 : W.frozen? ⟨h, 0, none⟩ = false)
    (hQ : ∀ w : World, w.cell? ⟨g, 0, none⟩ = some (.int .i64 0) → w.cell? ⟨g, 1, none⟩ = some (.string ⟨#[]⟩) → w.cell? ⟨g, 2, none⟩ = some (.string ⟨#[]⟩) → w.cell? ⟨g, 3, none⟩ = some (.slice none 0 0) → w.cell? ⟨g, 4, none⟩ = some (.slice none 0 0) → w.cell? ⟨h, 0, none⟩ = some (.int .i64 n) → Below B W w → Q .normal { tmps := #[.pointer (some ⟨g, 0, none⟩), .pointer (some ⟨h, 0, none⟩), c2, .pointer (some ⟨z, 0, none⟩), c4, c5, c6, c7, c8, c9, c10, c11, .agg #[.int .i64 0, .string ⟨#[]⟩, .string ⟨#[]⟩, .slice none 0 0, .slice none 0 0], .pointer (some ⟨z, 0, none⟩), .int .i64 n, c15, c16, c17], defers := [] } w) :
    Code.wp Tryz.prog ((Tryz.f16.body.bind (regionOf 3)).getD .skip) Q { tmps := #[.pointer (some ⟨g, 0, none⟩), .pointer (some ⟨h, 0, none⟩), c2, .pointer (some ⟨z, 0, none⟩), c4, c5, c6, c7, c8, c9, c10, c11, z12, z13, z14, c15, c16, c17], defers := [] } W := by
  conv => arg 2; whnf
  refine wp_region_inv (by kernel_rfl) (by kernel_rfl) (fun listed A w => CgI W n g h z B c2 c4 c5 c6 c7 c8 c9 c10 c11 c15 c16 c17 (fun j => listed.getD j false = true) A w) ?_ ?_ ?_
  · exact ⟨_, _, _, x0, x1, x2, x3, x4, y0, rfl, fun h => absurd h l0, fun h => absurd h l0, fun h => absurd h l0, e0, ⟨c0', c1', c2', c3', c4'⟩, d0', ⟨f0, f1, f2, f3, f4⟩, k0, fun h => absurd h l0, fun h => absurd h l0, (Below.refl B W).drew⟩
  · intro i o listed A w hi ho hdp hnl hI
    obtain ⟨s12, s13, s14, u0, u1, u2, u3, u4, v0, rfl, F0, F1, F2, E0, ⟨G0, G1, G2, G3, G4⟩, D0, ⟨H0, H1, H2, H3, H4⟩, K0, F3, F4, FB⟩ := hI
    have hi' : i < 5 := hi
    clear hi e0 c0' c1' c2' c3' c4' d0' f0 f1 f2 f3 f4 k0 hQ
    have lm : ∀ j, j ≠ i → (listed.setIfInBounds i true).getD j false = true → listed.getD j false = true := fun j hj h => ls (fun e => hj e.symm) h
    rcases (by omega : i = 0 ∨ i = 1 ∨ i = 2 ∨ i = 3 ∨ i = 4) with rfl | rfl | rfl | rfl | rfl
    · simp only [List.getElem?_toArray, List.getElem?_cons_zero, Option.some.injEq] at ho
      subst ho
      refine wpOp_step rfl (fun K hK => ?_)
      go_simp
      refine hK _ _ ?_
      exact ⟨_, _, _, u0, u1, u2, u3, u4, v0, rfl, fun _ => rfl, fun h => F1 (lm _ (by decide) h), fun h => F2 (lm _ (by decide) h), E0, ⟨G0, G1, G2, G3, G4⟩, D0, ⟨H0, H1, H2, H3, H4⟩, K0, fun h => F3 (lm _ (by decide) h), fun h => F4 (lm _ (by decide) h), FB⟩
    · simp only [List.getElem?_toArray, List.getElem?_cons_zero, List.getElem?_cons_succ, Option.some.injEq] at ho
      subst ho
      refine wpOp_step rfl (fun K hK => ?_)
      go_simp
      refine hK _ _ ?_
      exact ⟨_, _, _, u0, u1, u2, u3, u4, v0, rfl, fun h => F0 (lm _ (by decide) h), fun _ => rfl, fun h => F2 (lm _ (by decide) h), E0, ⟨G0, G1, G2, G3, G4⟩, D0, ⟨H0, H1, H2, H3, H4⟩, K0, fun h => F3 (lm _ (by decide) h), fun h => F4 (lm _ (by decide) h), FB⟩
    · simp only [List.getElem?_toArray, List.getElem?_cons_zero, List.getElem?_cons_succ, Option.some.injEq] at ho
      subst ho
      have L1 := hdp ⟨1, .data⟩ (by simp) rfl
      obtain rfl := F1 L1
      refine wpOp_step rfl (fun K hK => ?_)
      go_simp
      refine hK _ _ ?_
      exact ⟨_, _, _, u0, u1, u2, u3, u4, v0, rfl, fun h => F0 (lm _ (by decide) h), fun h => F1 (lm _ (by decide) h), fun _ => rfl, E0, ⟨G0, G1, G2, G3, G4⟩, D0, ⟨H0, H1, H2, H3, H4⟩, K0, fun h => F3 (lm _ (by decide) h), fun h => F4 (lm _ (by decide) h), FB⟩
    · simp only [List.getElem?_toArray, List.getElem?_cons_zero, List.getElem?_cons_succ, Option.some.injEq] at ho
      subst ho
      have L0 := hdp ⟨0, .data⟩ (by simp) rfl
      obtain rfl := F0 L0
      refine wpOp_step rfl (fun K hK => ?_)
      go_simp
      refine hK _ _ ?_
      exact ⟨_, _, _, .int .i64 0, .string ⟨#[]⟩, .string ⟨#[]⟩, .slice none 0 0, .slice none 0 0, v0, rfl, fun h => F0 (lm _ (by decide) h), fun h => F1 (lm _ (by decide) h), fun h => F2 (lm _ (by decide) h), (by rw [World.cell?_setCell_other, World.cell?_setCell_other, World.cell?_setCell_other, World.cell?_setCell_other, World.cell?_setCell_other]; (exact E0); all_goals (intro e; cases e <;> omega)), ⟨by go_simp, by go_simp, by go_simp, by go_simp, by go_simp⟩, (by rw [World.cell?_setCell_other, World.cell?_setCell_other, World.cell?_setCell_other, World.cell?_setCell_other, World.cell?_setCell_other]; (exact D0); all_goals (intro e; cases e <;> omega)), ⟨(by rw [World.frozen?_setCell, World.frozen?_setCell, World.frozen?_setCell, World.frozen?_setCell, World.frozen?_setCell]; exact H0), (by rw [World.frozen?_setCell, World.frozen?_setCell, World.frozen?_setCell, World.frozen?_setCell, World.frozen?_setCell]; exact H1), (by rw [World.frozen?_setCell, World.frozen?_setCell, World.frozen?_setCell, World.frozen?_setCell, World.frozen?_setCell]; exact H2), (by rw [World.frozen?_setCell, World.frozen?_setCell, World.frozen?_setCell, World.frozen?_setCell, World.frozen?_setCell]; exact H3), (by rw [World.frozen?_setCell, World.frozen?_setCell, World.frozen?_setCell, World.frozen?_setCell, World.frozen?_setCell]; exact H4)⟩, (by rw [World.frozen?_setCell, World.frozen?_setCell, World.frozen?_setCell, World.frozen?_setCell, World.frozen?_setCell]; exact K0), fun _ => ⟨rfl, rfl, rfl, rfl, rfl⟩, fun h => F4 (lm _ (by decide) h), (((((FB.setCell (p := ⟨g, 0, none⟩) hg _).setCell (p := ⟨g, 1, none⟩) hg _).setCell (p := ⟨g, 2, none⟩) hg _).setCell (p := ⟨g, 3, none⟩) hg _).setCell (p := ⟨g, 4, none⟩) hg _)⟩
    · simp only [List.getElem?_toArray, List.getElem?_cons_zero, List.getElem?_cons_succ, Option.some.injEq] at ho
      subst ho
      have L2 := hdp ⟨2, .data⟩ (by simp) rfl
      obtain rfl := F2 L2
      refine wpOp_step rfl (fun K hK => ?_)
      go_simp
      refine hK _ _ ?_
      exact ⟨_, _, _, u0, u1, u2, u3, u4, .int .i64 n, rfl, fun h => F0 (lm _ (by decide) h), fun h => F1 (lm _ (by decide) h), fun h => F2 (lm _ (by decide) h), (by rw [World.cell?_setCell_other]; (exact E0); all_goals (intro e; cases e <;> omega)), ⟨(by rw [World.cell?_setCell_other]; (exact G0); all_goals (intro e; cases e <;> omega)), (by rw [World.cell?_setCell_other]; (exact G1); all_goals (intro e; cases e <;> omega)), (by rw [World.cell?_setCell_other]; (exact G2); all_goals (intro e; cases e <;> omega)), (by rw [World.cell?_setCell_other]; (exact G3); all_goals (intro e; cases e <;> omega)), (by rw [World.cell?_setCell_other]; (exact G4); all_goals (intro e; cases e <;> omega))⟩, by go_simp, ⟨(by rw [World.frozen?_setCell]; exact H0), (by rw [World.frozen?_setCell]; exact H1), (by rw [World.frozen?_setCell]; exact H2), (by rw [World.frozen?_setCell]; exact H3), (by rw [World.frozen?_setCell]; exact H4)⟩, (by rw [World.frozen?_setCell]; exact K0), fun h => F3 (lm _ (by decide) h), fun _ => rfl, (FB.setCell (p := ⟨h, 0, none⟩) hh _)⟩
  · intro listed A w hall hI
    obtain ⟨s12, s13, s14, u0, u1, u2, u3, u4, v0, rfl, F0, F1, F2, E0, ⟨G0, G1, G2, G3, G4⟩, D0, _, K0, F3, F4, FB⟩ := hI
    obtain rfl := F0 (hall 0 (by decide))
    obtain rfl := F1 (hall 1 (by decide))
    obtain rfl := F2 (hall 2 (by decide))
    obtain ⟨rfl, rfl, rfl, rfl, rfl⟩ := F3 (hall 3 (by decide))
    obtain rfl := F4 (hall 4 (by decide))
    exact hQ w G0 G1 G2 G3 G4 D0 FB
theorem catch_gave (n : Int) (g h B : Nat) (hgh : g ≠ h) (hg : B ≤ g) (hh : B ≤ h) (w : World) (x0 x1 x2 x3 x4 y0 : Value)
    (c0 : w.cell? ⟨g, 0, none⟩ = some x0) (c1 : w.cell? ⟨g, 1, none⟩ = some x1) (c2 : w.cell? ⟨g, 2, none⟩ = some x2) (c3 : w.cell? ⟨g, 3, none⟩ = some x3) (c4 : w.cell? ⟨g, 4, none⟩ = some x4) (d0 : w.cell? ⟨h, 0, none⟩ = some y0)
    (f0 : w.frozen? ⟨g, 0, none⟩ = false) (f1 : w.frozen? ⟨g, 1, none⟩ = false) (f2 : w.frozen? ⟨g, 2, none⟩ = false) (f3 : w.frozen? ⟨g, 3, none⟩ = false) (f4 : w.frozen? ⟨g, 4, none⟩ = false) (k0 : w.frozen? ⟨h, 0, none⟩ = false) :
    CallsD Tryz.prog 16 #[.pointer (some ⟨g, 0, none⟩), .pointer (some ⟨h, 0, none⟩)] (.panicking [{ v := .iface 43 (.agg #[.int .i64 n]), recovered := false }]) w fun e u' w' => e = .returned (.tuple #[]) ∧ u' = .panicking [{ v := .iface 43 (.agg #[.int .i64 n]), recovered := true }] ∧
      w'.cell? ⟨g, 0, none⟩ = some (.int .i64 0) ∧ w'.cell? ⟨g, 1, none⟩ = some (.string ⟨#[]⟩) ∧ w'.cell? ⟨g, 2, none⟩ = some (.string ⟨#[]⟩) ∧ w'.cell? ⟨g, 3, none⟩ = some (.slice none 0 0) ∧ w'.cell? ⟨g, 4, none⟩ = some (.slice none 0 0) ∧ w'.cell? ⟨h, 0, none⟩ = some (.int .i64 n) ∧ Below B w w' := by
  have h1 := ta_gave
  have h2 := ne_nil
  refine callsD_of_wpS Tryz.func16 rfl fun c cs hu => ?_
  apply wpS_seq
  apply wpS_region
  simp [wpOpsS, go_sem, recoverD, hu, Tryz.ntmps16, Exit.thenS]
  refine wpS_of_wp ?_
  have hm : Tryz.prog.follows .mixedOrders = true := by kernel_rfl
  have hl : Tryz.prog.follows .lateStores = true := by kernel_rfl
  rw [show (#[Value.pointer (some ⟨g, 0, none⟩), Value.pointer (some ⟨h, 0, none⟩)] ++ (((Array.replicate 16 undef).setIfInBounds 3 (Value.iface 43 (Value.agg #[Value.int IntKind.i64 n]))).setIfInBounds 0 (Value.iface 43 (Value.agg #[Value.int IntKind.i64 n])))) = #[.pointer (some ⟨g, 0, none⟩), .pointer (some ⟨h, 0, none⟩), (Value.iface 43 (Value.agg #[Value.int IntKind.i64 n])), undef, undef, (Value.iface 43 (Value.agg #[Value.int IntKind.i64 n])), undef, undef, undef, undef, undef, undef, undef, undef, undef, undef, undef, undef] from rfl]
  have lg : g < w.heap.size := World.block_lt_of_cell? w _ c0
  have lh : h < w.heap.size := World.block_lt_of_cell? w _ d0
  have ng : g ≠ w.heap.size := by omega
  have nh : h ≠ w.heap.size := by omega
  have hhg : h ≠ g := hgh.symm
  go_wp2
  have e0 : (w.alloc (.cells #[.int .i64 n] 43)).cell? ⟨w.heap.size, 0, none⟩ = some (.int .i64 n) := by go_simp
  have c0' := cell_new' (o := .cells #[.int .i64 n] 43) c0
  have c1' := cell_new' (o := .cells #[.int .i64 n] 43) c1
  have c2' := cell_new' (o := .cells #[.int .i64 n] 43) c2
  have c3' := cell_new' (o := .cells #[.int .i64 n] 43) c3
  have c4' := cell_new' (o := .cells #[.int .i64 n] 43) c4
  have d0' := cell_new' (o := .cells #[.int .i64 n] 43) d0
  have f0' : (w.alloc (.cells #[.int .i64 n] 43)).frozen? ⟨g, 0, none⟩ = false := froz_new' lg f0
  have f1' : (w.alloc (.cells #[.int .i64 n] 43)).frozen? ⟨g, 1, none⟩ = false := froz_new' lg f1
  have f2' : (w.alloc (.cells #[.int .i64 n] 43)).frozen? ⟨g, 2, none⟩ = false := froz_new' lg f2
  have f3' : (w.alloc (.cells #[.int .i64 n] 43)).frozen? ⟨g, 3, none⟩ = false := froz_new' lg f3
  have f4' : (w.alloc (.cells #[.int .i64 n] 43)).frozen? ⟨g, 4, none⟩ = false := froz_new' lg f4
  have k0' : (w.alloc (.cells #[.int .i64 n] 43)).frozen? ⟨h, 0, none⟩ = false := froz_new' lh k0
  have hBW : Below B w (w.alloc (.cells #[.int .i64 n] 43)) := (Below.refl _ _).alloc (by omega) _
  have lW : w.heap.size < (w.alloc (.cells #[.int .i64 n] 43)).heap.size := by simp
  obtain ⟨z, hz⟩ : ∃ z, w.heap.size = z := ⟨_, rfl⟩
  rw [hz] at ng nh e0 lW ⊢
  generalize (w.alloc (.cells #[.int .i64 n] 43)) = W at *
  clear c0 c1 c2 c3 c4 d0 f0 f1 f2 f3 f4 k0
  refine Cg_region B hgh ng nh hg hh e0 c0' c1' c2' c3' c4' d0' f0' f1' f2' f3' f4' k0' ?_
  intro w9 g0 g1 g2 g3 g4 h0 hB9
  have hB := hBW.trans hB9
  cases c
  simp +zetaDelta [bodyPostS, results, Tryz.results16, g0, g1, g2, g3, g4, h0, hB]
end Go.Proofs.YtpdaldpaceolnaaGreatDoor
namespace Go.Proofs.YtpdaldpaceolnaaGreatDoor
open Go.RowKit Go.Lib
set_option maxRecDepth 100000
set_option maxHeartbeats 8000000
/-- The zero Tree. -/
abbrev zeroV : Value := .agg #[.int .i64 0, .string ⟨#[]⟩, .string ⟨#[]⟩, .slice none 0 0, .slice none 0 0]
def PaPost (R : Int × Option PT) (w : World) (e : Ending) (w' : World) : Prop := match R with
  | (_, some t) => (∃ T : Tr, e = .returned (.tuple #[T.v, .int .i64 0]) ∧ T.pl = t ∧ T.In (NewB w w') w' ∧ T.Caps) ∧ Below w.heap.size w w'
  | (n, none) => e = .returned (.tuple #[zeroV, .int .i64 n]) ∧ Below w.heap.size w w'
theorem hmf9 : ∀ (fn : Fn) (first cap : Array Value) (w : World), (Instr.makeFunc fn first cap).run Tryz.prog w = .ok (.func fn first cap) w := fun _ _ _ _ => rfl
theorem parse_invalid (s : List UInt8) (hs : s.length ≤ 100000) (hv : validX s = false) (w : World) (hE : Env w) : Calls Tryz.prog 9 #[.string (ba' s)] w fun e w' => e = .returned (.tuple #[zeroV, .int .i64 61]) ∧ Below w.heap.size w w' := by
  have q1 : decide ((s.length : Int) > 1048576) = false := by simp; omega
  have q2 : decide ((1048576 : Int) < (s.length : Int)) = false := by simp; omega
  have hsz : (ba' s).size = s.length := size_ba s
  have HV : Hid (∀ w1 g, Below w.heap.size w w1 → strsAt w1 (some ⟨g, 0, none⟩) [ba' s] → Calls Tryz.prog 15 #[.slice (some ⟨g, 0, none⟩) 1 1] w1 fun e w' => e = .returned (.bool false) ∧ Below w1.heap.size w1 w') := Lib.hid fun w1 g h1 hst => by
    have h := valid_any (some ⟨g, 0, none⟩) 1 1 [ba' s] w1 rfl (by decide) (Utf8Tabs_below hE.1 h1) hst
    have e : [ba' s].all vS = false := by simp only [List.all_cons, List.all_nil, Bool.and_true]; exact hv
    rw [e] at h
    exact h
  have hst := fun w1 : World => one_str w1 (ba' s) (by rw [hsz]; unfold maxLen; omega)
  have HST := Lib.hid hst
  clear hE hv hst
  have HM := hmf9
  go_enter_defers Tryz.func9, Tryz.ntmps9
  go_wp2_with fail
  refine (HV.out _ _ (by repeat (with_reducible (first | exact Below.refl _ _ | assumption | apply ba | apply bd | apply bdr | (refine bs ?_ (by first | assumption | (simp; done) | (simp; omega))) | (refine bt ?_ (by assumption))))) (by have h := HST.out ((w.alloc (.cells #[.int .i64 0, .string ⟨#[]⟩, .string ⟨#[]⟩, .slice none 0 0, .slice none 0 0] 27)).alloc (.cells #[.int .i64 0] 28)); simpa using h)).mono ?_
  rintro e w1 ⟨rfl, hb1⟩
  have B1 : Below w.heap.size w w1 := bt (ba (ba (ba (Below.refl _ _)))) hb1
  have c0 : w1.cell? ⟨w.heap.size, 0, none⟩ = some (.int .i64 0) := ((bcell hb1).1 _ _ (by simp; omega)).trans (by go_simp)
  have f0 : w1.frozen? ⟨w.heap.size, 0, none⟩ = false := ((bcell hb1).2 _ _ (by simp; omega)).trans (by go_simp)
  have c1 : w1.cell? ⟨w.heap.size, 1, none⟩ = some (.string ⟨#[]⟩) := ((bcell hb1).1 _ _ (by simp; omega)).trans (by go_simp)
  have f1 : w1.frozen? ⟨w.heap.size, 1, none⟩ = false := ((bcell hb1).2 _ _ (by simp; omega)).trans (by go_simp)
  have c2 : w1.cell? ⟨w.heap.size, 2, none⟩ = some (.string ⟨#[]⟩) := ((bcell hb1).1 _ _ (by simp; omega)).trans (by go_simp)
  have f2 : w1.frozen? ⟨w.heap.size, 2, none⟩ = false := ((bcell hb1).2 _ _ (by simp; omega)).trans (by go_simp)
  have c3 : w1.cell? ⟨w.heap.size, 3, none⟩ = some (.slice none 0 0) := ((bcell hb1).1 _ _ (by simp; omega)).trans (by go_simp)
  have f3 : w1.frozen? ⟨w.heap.size, 3, none⟩ = false := ((bcell hb1).2 _ _ (by simp; omega)).trans (by go_simp)
  have c4 : w1.cell? ⟨w.heap.size, 4, none⟩ = some (.slice none 0 0) := ((bcell hb1).1 _ _ (by simp; omega)).trans (by go_simp)
  have f4 : w1.frozen? ⟨w.heap.size, 4, none⟩ = false := ((bcell hb1).2 _ _ (by simp; omega)).trans (by go_simp)
  have d0 : w1.cell? ⟨w.heap.size + 1, 0, none⟩ = some (.int .i64 0) := ((bcell hb1).1 _ _ (by simp)).trans (by go_simp)
  have k0 : w1.frozen? ⟨w.heap.size + 1, 0, none⟩ = false := ((bcell hb1).2 _ _ (by simp)).trans (by go_simp)
  clear hb1 HV HST
  go_wp2
  exact ⟨.tuple #[zeroV, .int .i64 61], by simp [results, Tryz.results9, go_sem, *], rfl, bs (bs (bs (bs (bs (bs B1 (Nat.le_refl _)) (Nat.le_refl _)) (Nat.le_refl _)) (Nat.le_refl _)) (Nat.le_refl _)) (Nat.le_succ _)⟩
end Go.Proofs.YtpdaldpaceolnaaGreatDoor
namespace Go.Proofs.YtpdaldpaceolnaaGreatDoor
open Go.RowKit Go.Lib
set_option maxRecDepth 100000
set_option maxHeartbeats 8000000
theorem replaceK_valid (o n : List UInt8) (ho : o ≠ []) (ha : ∀ x ∈ o, x.toNat < 128) (hn : validX n = true) : ∀ (k : Nat) (s : List UInt8), validX s = true → validX (Lib.replaceK o n k s) = true
  | 0, s, h => by rw [Lib.replaceK]; exact h
  | k + 1, s, h => by
    rw [Lib.replaceK]
    split
    · exact h
    · rename_i hi
      have h1 : Lib.index s o ≠ -1 := by simpa using hi
      rcases Lib.index_spec s o with ⟨h2, _⟩ | ⟨i, h2, h3, h4, _⟩
      · exact absurd h2 h1
      · rw [h2]
        simp only [Int.toNat_natCast]
        obtain ⟨u, hu⟩ := List.isPrefixOf_iff_prefix.1 h4
        obtain ⟨c, cs, rfl⟩ := List.exists_cons_of_ne_nil ho
        have e : s.take i ++ c :: (cs ++ u) = s := by
          rw [← List.cons_append, hu, List.take_append_drop]
        have hv := vx_split (s.take i).length (s.take i) c (cs ++ u) (Nat.le_refl _) (ha c (.head _)) (by rw [e]; exact h)
        have hv2 := vx_ascii (c :: cs) u ha hv.2
        have hd : s.drop (i + (c :: cs).length) = u := by
          rw [← List.drop_drop, ← hu, List.drop_left]
        rw [hd]
        exact vx_app (vx_app hv.1 hn) (replaceK_valid (c :: cs) n ho ha hn k u hv2.2)
theorem lines_valid (s : List UInt8) (h : validX s = true) : validX (linesF s) = true := by
  have h10 : validX [10] = true := by kernel_rfl
  have one : ∀ (o s : List UInt8), o ≠ [] → (∀ x ∈ o, x.toNat < 128) → validX s = true → validX (Lib.replaceAll s o [10]) = true := by
    intro o s ho ha hs
    unfold Lib.replaceAll Lib.replace
    split
    · exact hs
    · exact replaceK_valid o [10] ho ha h10 _ s hs
  unfold linesF
  exact one _ _ (by decide) (by decide) (one _ _ (by decide) (by decide) h)
theorem lines_len (s : List UInt8) : (linesF s).length ≤ s.length := by
  unfold linesF
  exact Nat.le_trans (replaceAll_len _ [13] [10] (by decide)) (replaceAll_len s [13, 10] [10] (by decide))
theorem bt' {n : Nat} {w W w1 : World} (h : Below n w W) (hb : Below n W w1) : Below n w w1 := h.trans hb
def PvPost (R : XR PT) (w : World) (e : Ending) (w' : World) : Prop := match R with
  | .ok t _ => (∃ T : Tr, e = .returned (.tuple #[T.v, .int .i64 0]) ∧ T.pl = t ∧ T.In (NewB w w') w' ∧ T.Caps) ∧ Below w.heap.size w w'
  | .bad => e = .returned (.tuple #[zeroV, .int .i64 61]) ∧ Below w.heap.size w w'
  | .nest => e = .returned (.tuple #[zeroV, .int .i64 15]) ∧ Below w.heap.size w w'
theorem parse_valid (s : List UInt8) (hs : s.length ≤ 100000) (hv : validX s = true) (w : World) (hE : Env w) : Calls Tryz.prog 9 #[.string (ba' s)] w (PvPost (docF (linesF s)) w) := by
  have q1 : decide ((s.length : Int) > 1048576) = false := by simp; omega
  have q2 : decide ((1048576 : Int) < (s.length : Int)) = false := by simp; omega
  have hsz : (ba' s).size = s.length := size_ba s
  have HV : Hid (∀ w1 g, Below w.heap.size w w1 → strsAt w1 (some ⟨g, 0, none⟩) [ba' s] → Calls Tryz.prog 15 #[.slice (some ⟨g, 0, none⟩) 1 1] w1 fun e w' => e = .returned (.bool true) ∧ Below w1.heap.size w1 w') := Lib.hid fun w1 g h1 hst => by
    have h := valid_any (some ⟨g, 0, none⟩) 1 1 [ba' s] w1 rfl (by decide) (Utf8Tabs_below hE.1 h1) hst
    have e : [ba' s].all vS = true := by simp only [List.all_cons, List.all_nil, Bool.and_true]; exact hv
    rw [e] at h
    exact h
  have HST := Lib.hid (fun w1 : World => one_str w1 (ba' s) (by rw [hsz]; unfold maxLen; omega))
  have HL : Hid (∀ w1, Below w.heap.size w w1 → Calls Tryz.prog 17 #[.string (ba' s)] w1 fun e w' => e = .returned (.string (ba' (linesF s))) ∧ Below w1.heap.size w1 w') := Lib.hid fun w1 h1 => by
    obtain ⟨v, h2⟩ := (hE.below h1).2.1
    exact lines_any s (by omega) v w1 h2
  obtain ⟨l, hl⟩ : ∃ l, linesF s = l := ⟨_, rfl⟩
  have hl1 : l.length ≤ 100000 := by rw [← hl]; exact Nat.le_trans (lines_len s) hs
  have hl2 : validX l = true := by rw [← hl]; exact lines_valid s hv
  rw [hl] at HL ⊢
  obtain ⟨R, hR⟩ : ∃ R, docF l = R := ⟨_, rfl⟩
  rw [hR]
  have HD : Hid (∀ W b, Below w.heap.size w W → At W b l → 5 ≤ b → Calls Tryz.prog 18 #[.pointer (some ⟨b, 0, none⟩)] W (ElPost b R W)) := Lib.hid fun W b h1 h2 h3 => document_any b l W h2 hl1 hl2 (hE.below h1) h3 R hR
  have hw5 : 5 ≤ w.heap.size := by
    obtain ⟨_, _, _, v4, h4, _⟩ := hE
    have := World.block_lt_of_cell? w _ h4
    simp only at this
    omega
  have HW5 := Lib.hid hw5
  clear hE hv hl hl1 hl2 hR hw5
  have HM := hmf9
  go_enter_defers Tryz.func9, Tryz.ntmps9
  go_wp2_with fail
  refine (HV.out _ _ (by repeat (with_reducible (first | exact Below.refl _ _ | assumption | apply ba | apply bd | apply bdr | (refine bs ?_ (by first | assumption | (simp; done) | (simp; omega))) | (refine bt ?_ (by assumption))))) (by have h := HST.out ((w.alloc (.cells #[.int .i64 0, .string ⟨#[]⟩, .string ⟨#[]⟩, .slice none 0 0, .slice none 0 0] 27)).alloc (.cells #[.int .i64 0] 28)); simpa using h)).mono ?_
  rintro e w1 ⟨rfl, hb1⟩
  have HB1 : Hid (Below w.heap.size w w1) := Lib.hid (bt (ba (ba (ba (Below.refl _ _)))) hb1)
  have c0 : w1.cell? ⟨w.heap.size, 0, none⟩ = some (.int .i64 0) := ((bcell hb1).1 _ _ (by simp; omega)).trans (by go_simp)
  have f0 : w1.frozen? ⟨w.heap.size, 0, none⟩ = false := ((bcell hb1).2 _ _ (by simp; omega)).trans (by go_simp)
  have c1 : w1.cell? ⟨w.heap.size, 1, none⟩ = some (.string ⟨#[]⟩) := ((bcell hb1).1 _ _ (by simp; omega)).trans (by go_simp)
  have f1 : w1.frozen? ⟨w.heap.size, 1, none⟩ = false := ((bcell hb1).2 _ _ (by simp; omega)).trans (by go_simp)
  have c2 : w1.cell? ⟨w.heap.size, 2, none⟩ = some (.string ⟨#[]⟩) := ((bcell hb1).1 _ _ (by simp; omega)).trans (by go_simp)
  have f2 : w1.frozen? ⟨w.heap.size, 2, none⟩ = false := ((bcell hb1).2 _ _ (by simp; omega)).trans (by go_simp)
  have c3 : w1.cell? ⟨w.heap.size, 3, none⟩ = some (.slice none 0 0) := ((bcell hb1).1 _ _ (by simp; omega)).trans (by go_simp)
  have f3 : w1.frozen? ⟨w.heap.size, 3, none⟩ = false := ((bcell hb1).2 _ _ (by simp; omega)).trans (by go_simp)
  have c4 : w1.cell? ⟨w.heap.size, 4, none⟩ = some (.slice none 0 0) := ((bcell hb1).1 _ _ (by simp; omega)).trans (by go_simp)
  have f4 : w1.frozen? ⟨w.heap.size, 4, none⟩ = false := ((bcell hb1).2 _ _ (by simp; omega)).trans (by go_simp)
  have d0 : w1.cell? ⟨w.heap.size + 1, 0, none⟩ = some (.int .i64 0) := ((bcell hb1).1 _ _ (by simp)).trans (by go_simp)
  have k0 : w1.frozen? ⟨w.heap.size + 1, 0, none⟩ = false := ((bcell hb1).2 _ _ (by simp)).trans (by go_simp)
  have z1 : w.heap.size + 1 < w1.heap.size := World.block_lt_of_cell? w1 _ d0
  clear hb1 HV HST
  go_wp2_with fail
  refine (HL.out _ HB1.out).mono ?_
  rintro e w2 ⟨rfl, hb2⟩
  have c0b := ((bcell hb2).1 (w.heap.size) 0 (by omega)).trans c0
  have f0b := ((bcell hb2).2 (w.heap.size) 0 (by omega)).trans f0
  have c1b := ((bcell hb2).1 (w.heap.size) 1 (by omega)).trans c1
  have f1b := ((bcell hb2).2 (w.heap.size) 1 (by omega)).trans f1
  have c2b := ((bcell hb2).1 (w.heap.size) 2 (by omega)).trans c2
  have f2b := ((bcell hb2).2 (w.heap.size) 2 (by omega)).trans f2
  have c3b := ((bcell hb2).1 (w.heap.size) 3 (by omega)).trans c3
  have f3b := ((bcell hb2).2 (w.heap.size) 3 (by omega)).trans f3
  have c4b := ((bcell hb2).1 (w.heap.size) 4 (by omega)).trans c4
  have f4b := ((bcell hb2).2 (w.heap.size) 4 (by omega)).trans f4
  have d0b := ((bcell hb2).1 (w.heap.size + 1) 0 (by omega)).trans d0
  have k0b := ((bcell hb2).2 (w.heap.size + 1) 0 (by omega)).trans k0
  have z2 : w.heap.size + 1 < w2.heap.size := zz hb2 z1
  have HB2 := Lib.hid (bt HB1.out hb2)
  clear hb2 z1 HL HB1 c0 f0 c1 f1 c2 f2 c3 f3 c4 f4 d0 k0
  go_wp2_with fail
  have hat : At (w2.alloc (.cells #[.string (ba' l)] 47)) w2.heap.size l := ⟨by go_simp, by go_simp, by simp⟩
  refine (HD.out _ _ (ba HB2.out) hat (by have := HW5.out; omega)).mono ?_
  have hbn : Below w2.heap.size w2 (w2.alloc (.cells #[.string (ba' l)] 47)) := ba (Below.refl _ _)
  have c0c := ((bcell hbn).1 (w.heap.size) 0 (by omega)).trans c0b
  have f0c := ((bcell hbn).2 (w.heap.size) 0 (by omega)).trans f0b
  have c1c := ((bcell hbn).1 (w.heap.size) 1 (by omega)).trans c1b
  have f1c := ((bcell hbn).2 (w.heap.size) 1 (by omega)).trans f1b
  have c2c := ((bcell hbn).1 (w.heap.size) 2 (by omega)).trans c2b
  have f2c := ((bcell hbn).2 (w.heap.size) 2 (by omega)).trans f2b
  have c3c := ((bcell hbn).1 (w.heap.size) 3 (by omega)).trans c3b
  have f3c := ((bcell hbn).2 (w.heap.size) 3 (by omega)).trans f3b
  have c4c := ((bcell hbn).1 (w.heap.size) 4 (by omega)).trans c4b
  have f4c := ((bcell hbn).2 (w.heap.size) 4 (by omega)).trans f4b
  have d0c := ((bcell hbn).1 (w.heap.size + 1) 0 (by omega)).trans d0b
  have k0c := ((bcell hbn).2 (w.heap.size + 1) 0 (by omega)).trans k0b
  have z3 : w2.heap.size < (w2.alloc (.cells #[.string (ba' l)] 47)).heap.size := by simp
  have HB3 : Hid (Below w.heap.size w (w2.alloc (.cells #[.string (ba' l)] 47))) := Lib.hid (ba HB2.out)
  obtain ⟨b, hb⟩ : ∃ b, w2.heap.size = b := ⟨_, rfl⟩
  rw [hb] at z2 z3 hat ⊢
  clear HD hbn HB2 c0b f0b c1b f1b c2b f2b c3b f3b c4b f4b d0b k0b hb
  generalize (w2.alloc (.cells #[.string (ba' l)] 47)) = W at *
  have nb : w.heap.size ≠ b := by omega
  have nb1 : w.heap.size + 1 ≠ b := by omega
  have lW : w.heap.size + 1 < W.heap.size := by omega
  cases R with
  | bad =>
    rintro e w3 ⟨rfl, l', hm⟩
    have c0d := (hm.cell (p := ⟨w.heap.size, 0, none⟩) (by show w.heap.size < _; omega) nb).trans c0c
    have f0d := (hm.frozen (p := ⟨w.heap.size, 0, none⟩) (by show w.heap.size < _; omega) nb).trans f0c
    have c1d := (hm.cell (p := ⟨w.heap.size, 1, none⟩) (by show w.heap.size < _; omega) nb).trans c1c
    have f1d := (hm.frozen (p := ⟨w.heap.size, 1, none⟩) (by show w.heap.size < _; omega) nb).trans f1c
    have c2d := (hm.cell (p := ⟨w.heap.size, 2, none⟩) (by show w.heap.size < _; omega) nb).trans c2c
    have f2d := (hm.frozen (p := ⟨w.heap.size, 2, none⟩) (by show w.heap.size < _; omega) nb).trans f2c
    have c3d := (hm.cell (p := ⟨w.heap.size, 3, none⟩) (by show w.heap.size < _; omega) nb).trans c3c
    have f3d := (hm.frozen (p := ⟨w.heap.size, 3, none⟩) (by show w.heap.size < _; omega) nb).trans f3c
    have c4d := (hm.cell (p := ⟨w.heap.size, 4, none⟩) (by show w.heap.size < _; omega) nb).trans c4c
    have f4d := (hm.frozen (p := ⟨w.heap.size, 4, none⟩) (by show w.heap.size < _; omega) nb).trans f4c
    have d0d := (hm.cell (p := ⟨w.heap.size + 1, 0, none⟩) lW nb1).trans d0c
    have k0d := (hm.frozen (p := ⟨w.heap.size + 1, 0, none⟩) lW nb1).trans k0c
    have HB4 := Lib.hid (bt' HB3.out (hm.old (n := w.heap.size) (by omega)))
    clear hm c0c f0c c1c f1c c2c f2c c3c f3c c4c f4c d0c k0c hat
    go_wp2
    refine leaves_cons (f := 16) (args := #[.pointer (some ⟨w.heap.size, 0, none⟩), .pointer (some ⟨w.heap.size + 1, 0, none⟩)]) (by simp) (by simp [go_sem]) ?_
    refine (catch_gave 61 w.heap.size (w.heap.size + 1) w.heap.size (by omega) (Nat.le_refl _) (Nat.le_succ _) w3 _ _ _ _ _ _ c0d c1d c2d c3d c4d d0d f0d f1d f2d f3d f4d k0d).mono ?_
    rintro e u' w5 ⟨rfl, rfl, g0, g1, g2, g3, g4, h0, hB⟩
    exact ⟨.tuple #[zeroV, .int .i64 61], by simp [results, Tryz.results9, go_sem, g0, g1, g2, g3, g4, h0], rfl, bt' HB4.out hB⟩
  | nest =>
    rintro e w3 ⟨rfl, l', hm⟩
    have c0d := (hm.cell (p := ⟨w.heap.size, 0, none⟩) (by show w.heap.size < _; omega) nb).trans c0c
    have f0d := (hm.frozen (p := ⟨w.heap.size, 0, none⟩) (by show w.heap.size < _; omega) nb).trans f0c
    have c1d := (hm.cell (p := ⟨w.heap.size, 1, none⟩) (by show w.heap.size < _; omega) nb).trans c1c
    have f1d := (hm.frozen (p := ⟨w.heap.size, 1, none⟩) (by show w.heap.size < _; omega) nb).trans f1c
    have c2d := (hm.cell (p := ⟨w.heap.size, 2, none⟩) (by show w.heap.size < _; omega) nb).trans c2c
    have f2d := (hm.frozen (p := ⟨w.heap.size, 2, none⟩) (by show w.heap.size < _; omega) nb).trans f2c
    have c3d := (hm.cell (p := ⟨w.heap.size, 3, none⟩) (by show w.heap.size < _; omega) nb).trans c3c
    have f3d := (hm.frozen (p := ⟨w.heap.size, 3, none⟩) (by show w.heap.size < _; omega) nb).trans f3c
    have c4d := (hm.cell (p := ⟨w.heap.size, 4, none⟩) (by show w.heap.size < _; omega) nb).trans c4c
    have f4d := (hm.frozen (p := ⟨w.heap.size, 4, none⟩) (by show w.heap.size < _; omega) nb).trans f4c
    have d0d := (hm.cell (p := ⟨w.heap.size + 1, 0, none⟩) lW nb1).trans d0c
    have k0d := (hm.frozen (p := ⟨w.heap.size + 1, 0, none⟩) lW nb1).trans k0c
    have HB4 := Lib.hid (bt' HB3.out (hm.old (n := w.heap.size) (by omega)))
    clear hm c0c f0c c1c f1c c2c f2c c3c f3c c4c f4c d0c k0c hat
    go_wp2
    refine leaves_cons (f := 16) (args := #[.pointer (some ⟨w.heap.size, 0, none⟩), .pointer (some ⟨w.heap.size + 1, 0, none⟩)]) (by simp) (by simp [go_sem]) ?_
    refine (catch_gave 15 w.heap.size (w.heap.size + 1) w.heap.size (by omega) (Nat.le_refl _) (Nat.le_succ _) w3 _ _ _ _ _ _ c0d c1d c2d c3d c4d d0d f0d f1d f2d f3d f4d k0d).mono ?_
    rintro e u' w5 ⟨rfl, rfl, g0, g1, g2, g3, g4, h0, hB⟩
    exact ⟨.tuple #[zeroV, .int .i64 15], by simp [results, Tryz.results9, go_sem, g0, g1, g2, g3, g4, h0], rfl, bt' HB4.out hB⟩
  | ok t r =>
    rintro e w3 ⟨⟨T, rfl, hp, hin, hcap⟩, hm⟩
    have c0d := (hm.cell (p := ⟨w.heap.size, 0, none⟩) (by show w.heap.size < _; omega) nb).trans c0c
    have f0d := (hm.frozen (p := ⟨w.heap.size, 0, none⟩) (by show w.heap.size < _; omega) nb).trans f0c
    have c1d := (hm.cell (p := ⟨w.heap.size, 1, none⟩) (by show w.heap.size < _; omega) nb).trans c1c
    have f1d := (hm.frozen (p := ⟨w.heap.size, 1, none⟩) (by show w.heap.size < _; omega) nb).trans f1c
    have c2d := (hm.cell (p := ⟨w.heap.size, 2, none⟩) (by show w.heap.size < _; omega) nb).trans c2c
    have f2d := (hm.frozen (p := ⟨w.heap.size, 2, none⟩) (by show w.heap.size < _; omega) nb).trans f2c
    have c3d := (hm.cell (p := ⟨w.heap.size, 3, none⟩) (by show w.heap.size < _; omega) nb).trans c3c
    have f3d := (hm.frozen (p := ⟨w.heap.size, 3, none⟩) (by show w.heap.size < _; omega) nb).trans f3c
    have c4d := (hm.cell (p := ⟨w.heap.size, 4, none⟩) (by show w.heap.size < _; omega) nb).trans c4c
    have f4d := (hm.frozen (p := ⟨w.heap.size, 4, none⟩) (by show w.heap.size < _; omega) nb).trans f4c
    have d0d := (hm.cell (p := ⟨w.heap.size + 1, 0, none⟩) lW nb1).trans d0c
    have k0d := (hm.frozen (p := ⟨w.heap.size + 1, 0, none⟩) lW nb1).trans k0c
    have HB4 := Lib.hid (bt' HB3.out (hm.old (n := w.heap.size) (by omega)))
    have HIN := Lib.hid hin
    have HP := Lib.hid hp
    have HC := Lib.hid hcap
    have zW := hm.grow
    clear hm c0c f0c c1c f1c c2c f2c c3c f3c c4c f4c d0c k0c hat hp hin hcap
    obtain ⟨tk, tn, tv, tA, tac, tps, tK, tkc, tks⟩ := T
    simp only [Tr.v]
    go_wp2
    refine leaves_cons (f := 16) (args := #[.pointer (some ⟨w.heap.size, 0, none⟩), .pointer (some ⟨w.heap.size + 1, 0, none⟩)]) (by simp) (by simp [go_sem]) ?_
    refine (catch_idle ⟨w.heap.size, 0, none⟩ ⟨w.heap.size + 1, 0, none⟩ _).mono ?_
    rintro e u' w5 ⟨rfl, rfl, rfl⟩
    have hst : ∀ q : Addr, W.heap.size ≤ q.block → q.block < w3.heap.size → ((((((((w3.setCell ⟨w.heap.size, 0, none⟩ (.int .i64 tk)).setCell ⟨w.heap.size, 1, none⟩ (.string (ba' tn))).setCell ⟨w.heap.size, 2, none⟩ (.string (ba' tv))).setCell ⟨w.heap.size, 3, none⟩ (.slice tA tps.length tac)).setCell ⟨w.heap.size, 4, none⟩ (.slice tK tks.length tkc)).setCell ⟨w.heap.size + 1, 0, none⟩ (.int .i64 0)).alloc (.cells #[.int .i64 0] 43)).cell? q) = w3.cell? q := by
      intro q h1 h2
      rw [World.cell?_alloc_lt _ _ _ (by simpa using h2)]
      repeat rw [World.cell?_setCell_other]
      all_goals (intro e; subst e; simp only at h1; omega)
    have ne1 : w.heap.size ≠ w.heap.size + 1 := by omega
    have ne2 : w.heap.size + 1 ≠ w.heap.size := by omega
    have g0 := cell_new' (o := .cells #[.int .i64 0] 43) (show ((((((w3.setCell ⟨w.heap.size, 0, none⟩ (.int .i64 tk)).setCell ⟨w.heap.size, 1, none⟩ (.string (ba' tn))).setCell ⟨w.heap.size, 2, none⟩ (.string (ba' tv))).setCell ⟨w.heap.size, 3, none⟩ (.slice tA tps.length tac)).setCell ⟨w.heap.size, 4, none⟩ (.slice tK tks.length tkc)).setCell ⟨w.heap.size + 1, 0, none⟩ (.int .i64 0)).cell? ⟨w.heap.size, 0, none⟩ = some (.int .i64 tk) by go_simp)
    have g1 := cell_new' (o := .cells #[.int .i64 0] 43) (show ((((((w3.setCell ⟨w.heap.size, 0, none⟩ (.int .i64 tk)).setCell ⟨w.heap.size, 1, none⟩ (.string (ba' tn))).setCell ⟨w.heap.size, 2, none⟩ (.string (ba' tv))).setCell ⟨w.heap.size, 3, none⟩ (.slice tA tps.length tac)).setCell ⟨w.heap.size, 4, none⟩ (.slice tK tks.length tkc)).setCell ⟨w.heap.size + 1, 0, none⟩ (.int .i64 0)).cell? ⟨w.heap.size, 1, none⟩ = some (.string (ba' tn)) by go_simp)
    have g2 := cell_new' (o := .cells #[.int .i64 0] 43) (show ((((((w3.setCell ⟨w.heap.size, 0, none⟩ (.int .i64 tk)).setCell ⟨w.heap.size, 1, none⟩ (.string (ba' tn))).setCell ⟨w.heap.size, 2, none⟩ (.string (ba' tv))).setCell ⟨w.heap.size, 3, none⟩ (.slice tA tps.length tac)).setCell ⟨w.heap.size, 4, none⟩ (.slice tK tks.length tkc)).setCell ⟨w.heap.size + 1, 0, none⟩ (.int .i64 0)).cell? ⟨w.heap.size, 2, none⟩ = some (.string (ba' tv)) by go_simp)
    have g3 := cell_new' (o := .cells #[.int .i64 0] 43) (show ((((((w3.setCell ⟨w.heap.size, 0, none⟩ (.int .i64 tk)).setCell ⟨w.heap.size, 1, none⟩ (.string (ba' tn))).setCell ⟨w.heap.size, 2, none⟩ (.string (ba' tv))).setCell ⟨w.heap.size, 3, none⟩ (.slice tA tps.length tac)).setCell ⟨w.heap.size, 4, none⟩ (.slice tK tks.length tkc)).setCell ⟨w.heap.size + 1, 0, none⟩ (.int .i64 0)).cell? ⟨w.heap.size, 3, none⟩ = some (.slice tA tps.length tac) by go_simp)
    have g4 := cell_new' (o := .cells #[.int .i64 0] 43) (show ((((((w3.setCell ⟨w.heap.size, 0, none⟩ (.int .i64 tk)).setCell ⟨w.heap.size, 1, none⟩ (.string (ba' tn))).setCell ⟨w.heap.size, 2, none⟩ (.string (ba' tv))).setCell ⟨w.heap.size, 3, none⟩ (.slice tA tps.length tac)).setCell ⟨w.heap.size, 4, none⟩ (.slice tK tks.length tkc)).setCell ⟨w.heap.size + 1, 0, none⟩ (.int .i64 0)).cell? ⟨w.heap.size, 4, none⟩ = some (.slice tK tks.length tkc) by go_simp)
    have h0 := cell_new' (o := .cells #[.int .i64 0] 43) (show ((((((w3.setCell ⟨w.heap.size, 0, none⟩ (.int .i64 tk)).setCell ⟨w.heap.size, 1, none⟩ (.string (ba' tn))).setCell ⟨w.heap.size, 2, none⟩ (.string (ba' tv))).setCell ⟨w.heap.size, 3, none⟩ (.slice tA tps.length tac)).setCell ⟨w.heap.size, 4, none⟩ (.slice tK tks.length tkc)).setCell ⟨w.heap.size + 1, 0, none⟩ (.int .i64 0)).cell? ⟨w.heap.size + 1, 0, none⟩ = some (.int .i64 0) by go_simp)
    refine ⟨.tuple #[(Tr.mk tk tn tv tA tac tps tK tkc tks).v, .int .i64 0], by simp [results, Tryz.results9, go_sem, Tr.v, g0, g1, g2, g3, g4, h0], ⟨⟨_, rfl, HP.out, HIN.out.keep (fun q hq => ⟨by have := HB3.out.size; have := hq.1; omega, by simp; have := hq.2; omega⟩) (fun q hq => hst q hq.1 hq.2), HC.out⟩, ba (bs (bs (bs (bs (bs (bs HB4.out (Nat.le_refl _)) (Nat.le_refl _)) (Nat.le_refl _)) (Nat.le_refl _)) (Nat.le_refl _)) (Nat.le_succ _))⟩⟩
end Go.Proofs.YtpdaldpaceolnaaGreatDoor
