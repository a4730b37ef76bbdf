/- Trees, items and the kinds of both: part 6. No condition beyond what the theorems state. -/
import Derived.Test.YtjpopmgnhgancaaDoorKdB
namespace Go.Proofs.YtjpopmgnhgancaaDoor
open Go.RowKit Go.Lib
set_option maxRecDepth 100000
set_option maxHeartbeats 8000000
theorem rfp1 (n v : List UInt8) (A K : Option Addr) (ac kc d nk : Nat) (w : World) (P : Nat → Prop) (HP : Hid (∀ b, P b → b < w.heap.size)) (ks : List Tr) (HNK : Hid (ks.length = nk)) (HK : Hid (RdP P w 5 K nk (rowT ks))) (HL : Hid (InL P w ks)) (IH : Hid (∀ t ∈ ks, RefR t)) (HB : Hid (∀ t ∈ ks, t.pl.bulk ≤ 1048576)) (hnk : nk ≤ 1048576) (hd : d ≤ 64) (hn : n = []) (hv : v = []) (HV : Hid (Gives 53 #[.string (ba' v)] (.bool true))) : Calls Tryd.prog 29 #[.agg #[.int .i64 1, .string (ba' n), .string (ba' v), .slice A 0 ac, .slice K nk kc], .int .i64 (d : Int)] w fun e w' => e = .returned (.bool (rightL (plL ks) (d + 1) 0)) ∧ Below w.heap.size w w' := by
  have gd : decide ((d : Int) > 64) = false := by simp; omega
  have gd2 : decide (64 < (d : Int)) = false := by simp; omega
  have gn := isE hn
  clear hn
  have gv := isE hv
  clear hv
  obtain ⟨res, hres⟩ : ∃ res, (rightL (plL ks) (d + 1) 0) = res := ⟨_, rfl⟩
  rw [hres]
  have HS := Lib.hid hres
  clear hres
  go_enter Tryd.func29, Tryd.ntmps29
  go_wp2_with (first
    | (go_at_call 53; go_must (refine (HV.out _).mono ?_); rintro e w2 ⟨rfl, hb2⟩; have hc2 := fun o => (bcell hb2).1 w.heap.size o (by first | (simp; done) | assumption | (simp; omega))))
  go_loopw [7] (fun s7 wx => s7 = .int .i64 0 ∧ wx.cell? ⟨w.heap.size, 3, none⟩ = some (.slice A 0 ac) ∧ wx.cell? ⟨w.heap.size, 4, none⟩ = some (.slice K nk kc) ∧ w.heap.size < wx.heap.size ∧ Below w.heap.size w wx) (fun _ _ => 0)
  case atStart => exact ⟨rfl, (by first | assumption | (simp [*]; done)), (by first | assumption | (simp [*]; done)), (by first | assumption | (simp; done) | exact zz hb1 (by assumption) | exact zz hb2 (by assumption) | exact zz hb2 (by simp) | exact zz hb1 (by simp) | (simp; omega)), by repeat (with_reducible (first | exact Below.refl _ _ | assumption | apply ba | apply bd | apply bdr | (refine bs ?_ (by first | assumption | (simp; done) | (simp; omega))) | (refine bt ?_ (by assumption))))⟩
  case round =>
    obtain ⟨rfl, hb3, hb4, hsz, hBW⟩ := hrel
    go_wp2
    go_loopw [9] (fun s9 wx => ∃ q : Nat, s9 = .int .i64 q ∧ q ≤ nk ∧ Hid (rightL ((plL ks).drop q) (d + 1) (lastK ks q) = res) ∧ wx.cell? ⟨w.heap.size, 3, none⟩ = some (.slice A 0 ac) ∧ wx.cell? ⟨w.heap.size, 4, none⟩ = some (.slice K nk kc) ∧ w.heap.size < wx.heap.size ∧ Below w.heap.size w wx) (fun s9 _ => nk - (intOf s9).toNat)
    case atStart => exact ⟨0, rfl, Nat.zero_le _, Lib.hid (by rw [← HS.out]; rfl), (by first | assumption | (simp [*]; done)), (by first | assumption | (simp [*]; done)), (by first | assumption | (simp; done) | exact zz hb1 (by assumption) | exact zz hb2 (by assumption) | exact zz hb2 (by simp) | exact zz hb1 (by simp) | (simp; omega)), by repeat (with_reducible (first | exact Below.refl _ _ | assumption | apply ba | apply bd | apply bdr | (refine bs ?_ (by first | assumption | (simp; done) | (simp; omega))) | (refine bt ?_ (by assumption))))⟩
    case round =>
      obtain ⟨q, rfl, hq, hrel, hb3, hb4, hsz, hBW⟩ := hrel
      by_cases hql : q < nk
      · have g1 : decide ((q : Int) < (nk : Int)) = true := by first | (simp; done) | (simp; omega)
        have hqk : q < ks.length := by rw [HNK.out]; exact hql
        obtain ⟨t, ht⟩ : ∃ t, ks[q]? = some t := ⟨_, List.getElem?_eq_getElem hqk⟩
        have htm := List.mem_of_getElem? ht
        have hst : rightL ((plL ks).drop q) (d + 1) (lastK ks q) = (kidR t.pl.k (lastK ks q) && t.pl.right (d + 1) && rightL ((plL ks).drop (q + 1)) (d + 1) (lastK ks (q + 1))) := by
          rw [drop_at (plL_at ht), rightL]
          congr 1
          show _ = rightL _ _ (((ks[q]?).map fun t => t.pl.k).getD 0)
          rw [ht]; rfl
        have hc := IH.out t htm P
        have hin' := (inL_iff.1 HL.out t htm).below HP.out hBW
        have hbk := HB.out t htm
        have HTQ := Lib.hid ht
        obtain ⟨k', n', v', A', ac', ps', K', kc', ks'⟩ := t
        have hka := HK.out.below HP.out hBW
        obtain ⟨ad2, rfl, hPad2, d0, d1, d2, d3, d4⟩ := kid_at hka ht hql
        have hb0 : (ad2.add (q * 5)).block < wr.heap.size := by rw [block_of_add]; exact Nat.lt_of_lt_of_le (HP.out _ hPad2) hBW.size
        have HST := Lib.hid (hst.symm.trans hrel.out)
        have hkk : (Tr.mk k' n' v' A' ac' ps' K' kc' ks').pl.k = k' := rfl
        rw [hkk] at hst HST
        have HC := Lib.hid (hc wr (d + 1) hin' (fun b hb => Nat.lt_of_lt_of_le (HP.out b hb) hBW.size) hbk (by omega))
        obtain ⟨r, hr⟩ : ∃ r, (Tr.mk k' n' v' A' ac' ps' K' kc' ks').pl.right (d + 1) = r := ⟨_, rfl⟩
        rw [hr] at HC HST
        obtain ⟨np', hnp'⟩ : ∃ q, ps'.length = q := ⟨_, rfl⟩
        obtain ⟨nk', hnk'⟩ : ∃ q, ks'.length = q := ⟨_, rfl⟩
        simp only [Tr.v] at HC
        rw [hnp', hnk'] at HC
        rw [hnp'] at d3
        rw [hnk'] at d4
        have HD : Hid (((d + 1 : Nat) : Int) = (d : Int) + 1) := Lib.hid (by push_cast; rfl)
        rw [HD.out] at HC
        clear hst hc hin' hka ht htm hqk hr hkk hnp' hnk' hbk hrel
        by_cases hk : k' = 2 ∨ k' = 4 ∨ k' = 5
        · rcases hk with rfl | rfl | rfl
          · cases r with
            | false =>
              have hr : res = false := by rw [← HST.out, Bool.and_false]; rfl
              subst hr
              go_wp2_with (go_at_call 29; go_must (refine HC.out.mono ?_); rintro e w1 ⟨rfl, hb1⟩; have hc1 := fun o => (bcell hb1).1 w.heap.size o hsz; have z1 := zz hb1 hsz)
              go_ret
              exact ⟨rfl, by repeat (with_reducible (first | exact Below.refl _ _ | assumption | apply ba | apply bd | apply bdr | (refine bs ?_ (by first | assumption | (simp; done) | (simp; omega))) | (refine bt ?_ (by assumption))))⟩
            | true =>
              have HN2 : Hid (rightL ((plL ks).drop (q + 1)) (d + 1) (lastK ks (q + 1)) = res) := Lib.hid (by rw [← HST.out]; simp [kidR])
              rcases Nat.eq_zero_or_pos q with h0 | h0
              · have gq : decide ((q : Int) > 0) = false := by first | (simp; done) | (simp; omega)
                have gq2 : decide (0 < (q : Int)) = false := by first | (simp; done) | (simp; omega)
                have gq3 : decide (0 < q) = false := by simp; omega
                clear h0
                go_wp2_with (go_at_call 29; go_must (refine HC.out.mono ?_); rintro e w1 ⟨rfl, hb1⟩; have hc1 := fun o => (bcell hb1).1 w.heap.size o hsz; have z1 := zz hb1 hsz)
                go_roundw
                case rel => exact ⟨q + 1, by go_num, by omega, HN2, (by first | assumption | (simp [*]; done)), (by first | assumption | (simp [*]; done)), (by first | assumption | (simp; done) | exact zz hb1 (by assumption) | exact zz hb2 (by assumption) | exact zz hb2 (by simp) | exact zz hb1 (by simp) | (simp; omega)), by repeat (with_reducible (first | exact Below.refl _ _ | assumption | apply ba | apply bd | apply bdr | (refine bs ?_ (by first | assumption | (simp; done) | (simp; omega))) | (refine bt ?_ (by assumption))))⟩
                case measure => simp [intOf]; omega
              · have gq : decide ((q : Int) > 0) = true := by first | (simp; done) | (simp; omega)
                have gq2 : decide (0 < (q : Int)) = true := by first | (simp; done) | (simp; omega)
                have gq3 : decide (0 < q) = true := by simpa using h0
                go_wp2_with (go_at_call 29; go_must (refine HC.out.mono ?_); rintro e w1 ⟨rfl, hb1⟩; have hc1 := fun o => (bcell hb1).1 w.heap.size o hsz; have z1 := zz hb1 hsz)
                go_roundw
                case rel => exact ⟨q + 1, by go_num, by omega, HN2, (by first | assumption | (simp [*]; done)), (by first | assumption | (simp [*]; done)), (by first | assumption | (simp; done) | exact zz hb1 (by assumption) | exact zz hb2 (by assumption) | exact zz hb2 (by simp) | exact zz hb1 (by simp) | (simp; omega)), by repeat (with_reducible (first | exact Below.refl _ _ | assumption | apply ba | apply bd | apply bdr | (refine bs ?_ (by first | assumption | (simp; done) | (simp; omega))) | (refine bt ?_ (by assumption))))⟩
                case measure => simp [intOf]; omega
          · cases r with
            | false =>
              have hr : res = false := by rw [← HST.out, Bool.and_false]; rfl
              subst hr
              go_wp2_with (go_at_call 29; go_must (refine HC.out.mono ?_); rintro e w1 ⟨rfl, hb1⟩; have hc1 := fun o => (bcell hb1).1 w.heap.size o hsz; have z1 := zz hb1 hsz)
              go_ret
              exact ⟨rfl, by repeat (with_reducible (first | exact Below.refl _ _ | assumption | apply ba | apply bd | apply bdr | (refine bs ?_ (by first | assumption | (simp; done) | (simp; omega))) | (refine bt ?_ (by assumption))))⟩
            | true =>
              rcases Nat.eq_zero_or_pos q with h0 | h0
              · have hl0 : lastK ks q = 0 := by rw [h0]; rfl
                have HN2 : Hid (rightL ((plL ks).drop (q + 1)) (d + 1) (lastK ks (q + 1)) = res) := Lib.hid (by rw [← HST.out, hl0]; simp [kidR])
                have gq : decide ((q : Int) > 0) = false := by first | (simp; done) | (simp; omega)
                have gq2 : decide (0 < (q : Int)) = false := by first | (simp; done) | (simp; omega)
                have gq3 : decide (0 < q) = false := by simp; omega
                clear h0
                clear hl0
                go_wp2_with (go_at_call 29; go_must (refine HC.out.mono ?_); rintro e w1 ⟨rfl, hb1⟩; have hc1 := fun o => (bcell hb1).1 w.heap.size o hsz; have z1 := zz hb1 hsz)
                go_roundw
                case rel => exact ⟨q + 1, by go_num, by omega, HN2, (by first | assumption | (simp [*]; done)), (by first | assumption | (simp [*]; done)), (by first | assumption | (simp; done) | exact zz hb1 (by assumption) | exact zz hb2 (by assumption) | exact zz hb2 (by simp) | exact zz hb1 (by simp) | (simp; omega)), by repeat (with_reducible (first | exact Below.refl _ _ | assumption | apply ba | apply bd | apply bdr | (refine bs ?_ (by first | assumption | (simp; done) | (simp; omega))) | (refine bt ?_ (by assumption))))⟩
                case measure => simp [intOf]; omega
              · obtain ⟨j, rfl⟩ : ∃ j, q = j + 1 := ⟨q - 1, by omega⟩
                have gq : decide (((j + 1 : Nat) : Int) > 0) = true := by first | (simp; done) | (simp; omega)
                have gq2 : decide (0 < ((j + 1 : Nat) : Int)) = true := by first | (simp; done) | (simp; omega)
                have gj : decide ((j : Int) < (nk : Int)) = true := by first | (simp; done) | (simp; omega)
                obtain ⟨x, hx⟩ : ∃ x, ks[j]? = some x := ⟨_, List.getElem?_eq_getElem (by rw [HNK.out]; omega)⟩
                have hlk : lastK ks (j + 1) = x.pl.k := by show ((ks[j]?).map fun t => t.pl.k).getD 0 = _; rw [hx]; rfl
                obtain ⟨kx, nx, vx, Ax, acx, psx, Kx, kcx, ksx⟩ := x
                obtain ⟨ad3, e3, hPad3, f0, _⟩ := kid_at (HK.out.below HP.out hBW) hx (by omega : j < nk)
                cases e3
                have hlk2 : lastK ks (j + 1) = kx := hlk
                have hb9 : (ad2.add (j * 5)).block < wr.heap.size := by rw [block_of_add]; exact Nat.lt_of_lt_of_le (HP.out _ hPad3) hBW.size
                by_cases h4 : kx = 4
                · have hr : res = false := by
                    rw [← HST.out, hlk2, h4]
                    have : kidR 4 4 = false := by decide
                    rw [this]; rfl
                  subst hr
                  subst h4
                  clear hx hlk hlk2
                  go_wp2_with (go_at_call 29; go_must (refine HC.out.mono ?_); rintro e w1 ⟨rfl, hb1⟩; have hc1 := fun o => (bcell hb1).1 w.heap.size o hsz; have z1 := zz hb1 hsz; have he1 := hb1.cell (p := ad2.add (j * 5)) hb9)
                  go_ret
                  exact ⟨rfl, by repeat (with_reducible (first | exact Below.refl _ _ | assumption | apply ba | apply bd | apply bdr | (refine bs ?_ (by first | assumption | (simp; done) | (simp; omega))) | (refine bt ?_ (by assumption))))⟩
                · have n4 : (kx == 4) = false := by simpa using h4
                  have HN2 : Hid (rightL ((plL ks).drop (j + 1 + 1)) (d + 1) (lastK ks (j + 1 + 1)) = res) := Lib.hid (by
                    rw [← HST.out, hlk2]
                    have : kidR 4 kx = true := by unfold kidR; rw [decide_eq_true_iff]; exact ⟨.inr (.inl rfl), fun h => h4 h.2⟩
                    rw [this]; rfl)
                  clear hx hlk hlk2 h4
                  go_wp2_with (go_at_call 29; go_must (refine HC.out.mono ?_); rintro e w1 ⟨rfl, hb1⟩; have hc1 := fun o => (bcell hb1).1 w.heap.size o hsz; have z1 := zz hb1 hsz; have he1 := hb1.cell (p := ad2.add (j * 5)) hb9)
                  go_roundw
                  case rel => exact ⟨j + 1 + 1, by go_num, by omega, HN2, (by first | assumption | (simp [*]; done)), (by first | assumption | (simp [*]; done)), (by first | assumption | (simp; done) | exact zz hb1 (by assumption) | exact zz hb2 (by assumption) | exact zz hb2 (by simp) | exact zz hb1 (by simp) | (simp; omega)), by repeat (with_reducible (first | exact Below.refl _ _ | assumption | apply ba | apply bd | apply bdr | (refine bs ?_ (by first | assumption | (simp; done) | (simp; omega))) | (refine bt ?_ (by assumption))))⟩
                  case measure => simp [intOf]; omega
          · cases r with
            | false =>
              have hr : res = false := by rw [← HST.out, Bool.and_false]; rfl
              subst hr
              go_wp2_with (go_at_call 29; go_must (refine HC.out.mono ?_); rintro e w1 ⟨rfl, hb1⟩; have hc1 := fun o => (bcell hb1).1 w.heap.size o hsz; have z1 := zz hb1 hsz)
              go_ret
              exact ⟨rfl, by repeat (with_reducible (first | exact Below.refl _ _ | assumption | apply ba | apply bd | apply bdr | (refine bs ?_ (by first | assumption | (simp; done) | (simp; omega))) | (refine bt ?_ (by assumption))))⟩
            | true =>
              have HN2 : Hid (rightL ((plL ks).drop (q + 1)) (d + 1) (lastK ks (q + 1)) = res) := Lib.hid (by rw [← HST.out]; simp [kidR])
              rcases Nat.eq_zero_or_pos q with h0 | h0
              · have gq : decide ((q : Int) > 0) = false := by first | (simp; done) | (simp; omega)
                have gq2 : decide (0 < (q : Int)) = false := by first | (simp; done) | (simp; omega)
                have gq3 : decide (0 < q) = false := by simp; omega
                clear h0
                go_wp2_with (go_at_call 29; go_must (refine HC.out.mono ?_); rintro e w1 ⟨rfl, hb1⟩; have hc1 := fun o => (bcell hb1).1 w.heap.size o hsz; have z1 := zz hb1 hsz)
                go_roundw
                case rel => exact ⟨q + 1, by go_num, by omega, HN2, (by first | assumption | (simp [*]; done)), (by first | assumption | (simp [*]; done)), (by first | assumption | (simp; done) | exact zz hb1 (by assumption) | exact zz hb2 (by assumption) | exact zz hb2 (by simp) | exact zz hb1 (by simp) | (simp; omega)), by repeat (with_reducible (first | exact Below.refl _ _ | assumption | apply ba | apply bd | apply bdr | (refine bs ?_ (by first | assumption | (simp; done) | (simp; omega))) | (refine bt ?_ (by assumption))))⟩
                case measure => simp [intOf]; omega
              · have gq : decide ((q : Int) > 0) = true := by first | (simp; done) | (simp; omega)
                have gq2 : decide (0 < (q : Int)) = true := by first | (simp; done) | (simp; omega)
                have gq3 : decide (0 < q) = true := by simpa using h0
                go_wp2_with (go_at_call 29; go_must (refine HC.out.mono ?_); rintro e w1 ⟨rfl, hb1⟩; have hc1 := fun o => (bcell hb1).1 w.heap.size o hsz; have z1 := zz hb1 hsz)
                go_roundw
                case rel => exact ⟨q + 1, by go_num, by omega, HN2, (by first | assumption | (simp [*]; done)), (by first | assumption | (simp [*]; done)), (by first | assumption | (simp; done) | exact zz hb1 (by assumption) | exact zz hb2 (by assumption) | exact zz hb2 (by simp) | exact zz hb1 (by simp) | (simp; omega)), by repeat (with_reducible (first | exact Below.refl _ _ | assumption | apply ba | apply bd | apply bdr | (refine bs ?_ (by first | assumption | (simp; done) | (simp; omega))) | (refine bt ?_ (by assumption))))⟩
                case measure => simp [intOf]; omega
        · have n2 : (k' == 2) = false := by simp; omega
          have n4 : (k' == 4) = false := by simp; omega
          have n5 : (k' == 5) = false := by simp; omega
          have m2 : (k' != 2) = true := by simp; omega
          have m4 : (k' != 4) = true := by simp; omega
          have m5 : (k' != 5) = true := by simp; omega
          have hr : res = false := by
            rw [← HST.out]
            have : kidR k' (lastK ks q) = false := by unfold kidR; rw [decide_eq_false_iff_not]; exact fun h => hk h.1
            rw [this]; rfl
          subst hr
          clear hk
          go_wp2
          go_ret
          exact ⟨rfl, by repeat (with_reducible (first | exact Below.refl _ _ | assumption | apply ba | apply bd | apply bdr | (refine bs ?_ (by first | assumption | (simp; done) | (simp; omega))) | (refine bt ?_ (by assumption))))⟩
      · obtain rfl : q = nk := by omega
        have g1 : decide (((q : Nat) : Int) < ((q : Nat) : Int)) = false := by simp
        have hr : res = true := by
          rw [← hrel.out, List.drop_eq_nil_of_le (by rw [plL_len, HNK.out]; exact Nat.le_refl _), rightL]
        subst hr
        go_wp2
        go_ret
        exact ⟨rfl, by repeat (with_reducible (first | exact Below.refl _ _ | assumption | apply ba | apply bd | apply bdr | (refine bs ?_ (by first | assumption | (simp; done) | (simp; omega))) | (refine bt ?_ (by assumption))))⟩
theorem rfp2 (n v : List UInt8) (A K : Option Addr) (ac kc d np nk : Nat) (w : World) (P : Nat → Prop) (HP : Hid (∀ b, P b → b < w.heap.size)) (ps : List (List UInt8 × List UInt8)) (HNP : Hid (ps.length = np)) (HA : Hid (RdP P w 2 A np (rowP ps))) (HPL : Hid (∀ p ∈ ps, p.1.length ≤ 1048576 ∧ p.2.length ≤ 1048576)) (hnp : np ≤ 1048576) (ks : List Tr) (HNK : Hid (ks.length = nk)) (HK : Hid (RdP P w 5 K nk (rowT ks))) (HL : Hid (InL P w ks)) (IH : Hid (∀ t ∈ ks, RefR t)) (HB : Hid (∀ t ∈ ks, t.pl.bulk ≤ 1048576)) (hnk : nk ≤ 1048576) (hd : d ≤ 64) (hn : n ≠ []) (hv : v = []) (HN : Hid (Gives 26 #[.string (ba' n)] (.bool true))) (HV : Hid (Gives 53 #[.string (ba' v)] (.bool true))) : Calls Tryd.prog 29 #[.agg #[.int .i64 2, .string (ba' n), .string (ba' v), .slice A np ac, .slice K nk kc], .int .i64 (d : Int)] w fun e w' => e = .returned (.bool (pairsR ps && rightL (plL ks) (d + 1) 0)) ∧ Below w.heap.size w w' := by
  have gd : decide ((d : Int) > 64) = false := by simp; omega
  have gd2 : decide (64 < (d : Int)) = false := by simp; omega
  have gn := isN hn
  clear hn
  have gv := isE hv
  clear hv
  obtain ⟨res, hres⟩ : ∃ res, (pairsR ps && rightL (plL ks) (d + 1) 0) = res := ⟨_, rfl⟩
  rw [hres]
  have HS := Lib.hid hres
  clear hres
  go_enter Tryd.func29, Tryd.ntmps29
  go_wp2_with (first
    | (go_at_call 26; go_must (refine (HN.out _).mono ?_); rintro e w1 ⟨rfl, hb1⟩; have hc1 := fun o => (bcell hb1).1 w.heap.size o (by first | (simp; done) | assumption | (simp; omega)); have z1 : w.heap.size < w1.heap.size := zz hb1 (by simp))
    | (go_at_call 53; go_must (refine (HV.out _).mono ?_); rintro e w2 ⟨rfl, hb2⟩; have hc2 := fun o => (bcell hb2).1 w.heap.size o (by first | (simp; done) | assumption | (simp; omega))))
  go_loopw [7] (fun s7 wx => ∃ i : Nat, s7 = .int .i64 i ∧ i ≤ np ∧ Hid (pairsR (ps.take i) = true) ∧ wx.cell? ⟨w.heap.size, 3, none⟩ = some (.slice A np ac) ∧ wx.cell? ⟨w.heap.size, 4, none⟩ = some (.slice K nk kc) ∧ w.heap.size < wx.heap.size ∧ Below w.heap.size w wx) (fun s7 _ => np - (intOf s7).toNat)
  case atStart => exact ⟨0, rfl, Nat.zero_le _, Lib.hid rfl, (by first | assumption | (simp [*]; done)), (by first | assumption | (simp [*]; done)), (by first | assumption | (simp; done) | exact zz hb1 (by assumption) | exact zz hb2 (by assumption) | exact zz hb2 (by simp) | exact zz hb1 (by simp) | (simp; omega)), by repeat (with_reducible (first | exact Below.refl _ _ | assumption | apply ba | apply bd | apply bdr | (refine bs ?_ (by first | assumption | (simp; done) | (simp; omega))) | (refine bt ?_ (by assumption))))⟩
  case round =>
    obtain ⟨i, rfl, hi, hall, hb3, hb4, hsz, hBW⟩ := hrel
    by_cases hlt : i < np
    · have g0 : decide ((i : Int) < (np : Int)) = true := by first | (simp; done) | (simp; omega)
      have hil : i < ps.length := by rw [HNP.out]; exact hlt
      obtain ⟨p, hp⟩ : ∃ p, ps[i]? = some p := ⟨_, List.getElem?_eq_getElem hil⟩
      have HPI := Lib.hid hp
      have hpl := HPL.out p (List.mem_of_getElem? hp)
      obtain ⟨p1, p2⟩ := p
      obtain ⟨r1, h1⟩ : ∃ r, nameX p1 = r := ⟨_, rfl⟩
      obtain ⟨r2, h2⟩ : ∃ r, validX p2 = r := ⟨_, rfl⟩
      have HN1 := nameR_g p1 hpl.1 r1 h1
      have HV1 := validR_g p2 hpl.2 r2 h2
      have H1 := Lib.hid h1
      have H2 := Lib.hid h2
      obtain ⟨ad, rfl, hPad, d0, d1⟩ := pair_at (HA.out.below HP.out hBW) hp hlt
      have hb0 : (ad.add (i * 2)).block < wr.heap.size := by rw [block_of_add]; exact Nat.lt_of_lt_of_le (HP.out _ hPad) hBW.size
      clear hp hpl h1 h2 hil
      cases r1 with
      | false =>
        have hr : res = false := by rw [← HS.out, pairs_bad HPI.out (.inl H1.out)]; rfl
        subst hr
        go_wp2_with (go_at_call 26; go_must (refine (HN1.out _).mono ?_); rintro e w1 ⟨rfl, hb1⟩)
        go_ret
        exact ⟨rfl, by repeat (with_reducible (first | exact Below.refl _ _ | assumption | apply ba | apply bd | apply bdr | (refine bs ?_ (by first | assumption | (simp; done) | (simp; omega))) | (refine bt ?_ (by assumption))))⟩
      | true =>
        cases r2 with
        | false =>
          have hr : res = false := by rw [← HS.out, pairs_bad HPI.out (.inr H2.out)]; rfl
          subst hr
          go_wp2_with (first
            | (go_at_call 26; go_must (refine (HN1.out _).mono ?_); rintro e w1 ⟨rfl, hb1⟩; have hc1 := fun o => (bcell hb1).1 w.heap.size o hsz; have he1 := fun q => (bcell hb1).1 (ad.add (i * 2)).block q hb0; have z1 := zz hb1 hsz)
            | (go_at_call 53; go_must (refine (HV1.out _).mono ?_); rintro e w2 ⟨rfl, hb2⟩))
          go_ret
          exact ⟨rfl, by repeat (with_reducible (first | exact Below.refl _ _ | assumption | apply ba | apply bd | apply bdr | (refine bs ?_ (by first | assumption | (simp; done) | (simp; omega))) | (refine bt ?_ (by assumption))))⟩
        | true =>
          go_wp2_with (first
            | (go_at_call 26; go_must (refine (HN1.out _).mono ?_); rintro e w1 ⟨rfl, hb1⟩; have hc1 := fun o => (bcell hb1).1 w.heap.size o hsz; have he1 := fun q => (bcell hb1).1 (ad.add (i * 2)).block q hb0; have z1 := zz hb1 hsz)
            | (go_at_call 53; go_must (refine (HV1.out _).mono ?_); rintro e w2 ⟨rfl, hb2⟩; have hc2 := fun o => (bcell hb2).1 w.heap.size o z1; have z2 := zz hb2 z1))
          go_loopw [8] (fun s8 wx => ∃ j : Nat, s8 = .int .i64 j ∧ j ≤ i ∧ Hid (∀ q, q < j → ∀ x, ps[q]? = some x → x.1 ≠ p1) ∧ wx.cell? ⟨w.heap.size, 3, none⟩ = some (.slice (some ad) np ac) ∧ wx.cell? ⟨w.heap.size, 4, none⟩ = some (.slice K nk kc) ∧ w.heap.size < wx.heap.size ∧ Below w.heap.size w wx) (fun s8 _ => i - (intOf s8).toNat)
          case atStart => exact ⟨0, rfl, Nat.zero_le _, Lib.hid (fun q h => absurd h (Nat.not_lt_zero _)), (by first | assumption | (simp [*]; done)), (by first | assumption | (simp [*]; done)), (by first | assumption | (simp; done) | exact zz hb1 (by assumption) | exact zz hb2 (by assumption) | exact zz hb2 (by simp) | exact zz hb1 (by simp) | (simp; omega)), by repeat (with_reducible (first | exact Below.refl _ _ | assumption | apply ba | apply bd | apply bdr | (refine bs ?_ (by first | assumption | (simp; done) | (simp; omega))) | (refine bt ?_ (by assumption))))⟩
          case round =>
            obtain ⟨j, rfl, hj, hne, hb3, hb4, hsz, hBW⟩ := hrel
            by_cases hjl : j < i
            · have g1 : decide ((j : Int) < (i : Int)) = true := by first | (simp; done) | (simp; omega)
              have hjn : j < np := by omega
              have g2 : decide ((j : Int) < (np : Int)) = true := by first | (simp; done) | (simp; omega)
              obtain ⟨x, hx⟩ : ∃ x, ps[j]? = some x := ⟨_, List.getElem?_eq_getElem (by rw [HNP.out]; exact hjn)⟩
              have HXJ := Lib.hid hx
              obtain ⟨x1, x2⟩ := x
              obtain ⟨ad', e', _, c0, c1⟩ := pair_at (HA.out.below HP.out hBW) hx hjn
              cases e'
              obtain ⟨ad', e', _, c2, c3⟩ := pair_at (HA.out.below HP.out hBW) HPI.out hlt
              cases e'
              clear hx
              by_cases heq : x1 = p1
              · have hr : res = false := by rw [← HS.out, pairs_twice HPI.out HXJ.out hjl heq]; rfl
                subst hr
                subst heq
                have ge := eq_yes x1
                go_wp2
                go_quiet (fail)
                go_wp2
                go_ret
                exact ⟨rfl, by first | exact bd hBW | (repeat (with_reducible (first | exact Below.refl _ _ | assumption | apply ba | apply bd | apply bdr | (refine bs ?_ (by first | assumption | (simp; done) | (simp; omega))) | (refine bt ?_ (by assumption)))))⟩
              · have ge := eq_no heq
                have HEQ := Lib.hid heq
                clear heq
                go_wp2
                go_quiet (fail)
                go_wp2
                go_roundw
                case rel => exact ⟨j + 1, by go_num, by omega, Lib.hid (fun q hq x hx => by
                  rcases Nat.lt_succ_iff_lt_or_eq.1 hq with h | h
                  · exact hne.out q h x hx
                  · subst h
                    rw [HXJ.out] at hx
                    cases hx
                    exact HEQ.out), (by first | assumption | (simp [*]; done)), (by first | assumption | (simp [*]; done)), (by first | assumption | (simp; done) | (simp; omega)), by first | exact bd hBW | (repeat (with_reducible (first | exact Below.refl _ _ | assumption | apply ba | apply bd | apply bdr | (refine bs ?_ (by first | assumption | (simp; done) | (simp; omega))) | (refine bt ?_ (by assumption)))))⟩
                case measure => simp [intOf]; omega
            · obtain rfl : j = i := by omega
              have g1 : decide (((j : Nat) : Int) < ((j : Nat) : Int)) = false := by simp
              have hst := pairs_step HPI.out hall.out H1.out H2.out hne.out
              have HST := Lib.hid hst
              clear hst
              go_wp2
              go_roundw
              case rel => exact ⟨j + 1, by go_num, by omega, HST, (by first | assumption | (simp [*]; done)), (by first | assumption | (simp [*]; done)), (by first | assumption | (simp; done) | exact zz hb1 (by assumption) | exact zz hb2 (by assumption) | exact zz hb2 (by simp) | exact zz hb1 (by simp) | (simp; omega)), by repeat (with_reducible (first | exact Below.refl _ _ | assumption | apply ba | apply bd | apply bdr | (refine bs ?_ (by first | assumption | (simp; done) | (simp; omega))) | (refine bt ?_ (by assumption))))⟩
              case measure => simp [intOf]; omega
    · obtain rfl : i = np := by omega
      have g0 : decide (((i : Nat) : Int) < ((i : Nat) : Int)) = false := by simp
      have hpr : pairsR ps = true := by
        have := hall.out
        rwa [List.take_of_length_le (by rw [HNP.out]; exact Nat.le_refl _)] at this
      have HS2 : Hid (rightL (plL ks) (d + 1) 0 = res) := Lib.hid (by rw [← HS.out, hpr]; rfl)
      clear hpr
      go_wp2
      go_loopw [9] (fun s9 wx => ∃ q : Nat, s9 = .int .i64 q ∧ q ≤ nk ∧ Hid (rightL ((plL ks).drop q) (d + 1) (lastK ks q) = res) ∧ wx.cell? ⟨w.heap.size, 3, none⟩ = some (.slice A i ac) ∧ wx.cell? ⟨w.heap.size, 4, none⟩ = some (.slice K nk kc) ∧ w.heap.size < wx.heap.size ∧ Below w.heap.size w wx) (fun s9 _ => nk - (intOf s9).toNat)
      case atStart => exact ⟨0, rfl, Nat.zero_le _, Lib.hid (by rw [← HS2.out]; rfl), (by first | assumption | (simp [*]; done)), (by first | assumption | (simp [*]; done)), (by first | assumption | (simp; done) | exact zz hb1 (by assumption) | exact zz hb2 (by assumption) | exact zz hb2 (by simp) | exact zz hb1 (by simp) | (simp; omega)), by repeat (with_reducible (first | exact Below.refl _ _ | assumption | apply ba | apply bd | apply bdr | (refine bs ?_ (by first | assumption | (simp; done) | (simp; omega))) | (refine bt ?_ (by assumption))))⟩
      case round =>
        obtain ⟨q, rfl, hq, hrel, hb3, hb4, hsz, hBW⟩ := hrel
        by_cases hql : q < nk
        · have g1 : decide ((q : Int) < (nk : Int)) = true := by first | (simp; done) | (simp; omega)
          have hqk : q < ks.length := by rw [HNK.out]; exact hql
          obtain ⟨t, ht⟩ : ∃ t, ks[q]? = some t := ⟨_, List.getElem?_eq_getElem hqk⟩
          have htm := List.mem_of_getElem? ht
          have hst : rightL ((plL ks).drop q) (d + 1) (lastK ks q) = (kidR t.pl.k (lastK ks q) && t.pl.right (d + 1) && rightL ((plL ks).drop (q + 1)) (d + 1) (lastK ks (q + 1))) := by
            rw [drop_at (plL_at ht), rightL]
            congr 1
            show _ = rightL _ _ (((ks[q]?).map fun t => t.pl.k).getD 0)
            rw [ht]; rfl
          have hc := IH.out t htm P
          have hin' := (inL_iff.1 HL.out t htm).below HP.out hBW
          have hbk := HB.out t htm
          have HTQ := Lib.hid ht
          obtain ⟨k', n', v', A', ac', ps', K', kc', ks'⟩ := t
          have hka := HK.out.below HP.out hBW
          obtain ⟨ad2, rfl, hPad2, d0, d1, d2, d3, d4⟩ := kid_at hka ht hql
          have hb0 : (ad2.add (q * 5)).block < wr.heap.size := by rw [block_of_add]; exact Nat.lt_of_lt_of_le (HP.out _ hPad2) hBW.size
          have HST := Lib.hid (hst.symm.trans hrel.out)
          have hkk : (Tr.mk k' n' v' A' ac' ps' K' kc' ks').pl.k = k' := rfl
          rw [hkk] at hst HST
          have HC := Lib.hid (hc wr (d + 1) hin' (fun b hb => Nat.lt_of_lt_of_le (HP.out b hb) hBW.size) hbk (by omega))
          obtain ⟨r, hr⟩ : ∃ r, (Tr.mk k' n' v' A' ac' ps' K' kc' ks').pl.right (d + 1) = r := ⟨_, rfl⟩
          rw [hr] at HC HST
          obtain ⟨np', hnp'⟩ : ∃ q, ps'.length = q := ⟨_, rfl⟩
          obtain ⟨nk', hnk'⟩ : ∃ q, ks'.length = q := ⟨_, rfl⟩
          simp only [Tr.v] at HC
          rw [hnp', hnk'] at HC
          rw [hnp'] at d3
          rw [hnk'] at d4
          have HD : Hid (((d + 1 : Nat) : Int) = (d : Int) + 1) := Lib.hid (by push_cast; rfl)
          rw [HD.out] at HC
          clear hst hc hin' hka ht htm hqk hr hkk hnp' hnk' hbk hrel
          by_cases hk : k' = 2 ∨ k' = 4 ∨ k' = 5
          · rcases hk with rfl | rfl | rfl
            · cases r with
              | false =>
                have hr : res = false := by rw [← HST.out, Bool.and_false]; rfl
                subst hr
                go_wp2_with (go_at_call 29; go_must (refine HC.out.mono ?_); rintro e w1 ⟨rfl, hb1⟩; have hc1 := fun o => (bcell hb1).1 w.heap.size o hsz; have z1 := zz hb1 hsz)
                go_ret
                exact ⟨rfl, by repeat (with_reducible (first | exact Below.refl _ _ | assumption | apply ba | apply bd | apply bdr | (refine bs ?_ (by first | assumption | (simp; done) | (simp; omega))) | (refine bt ?_ (by assumption))))⟩
              | true =>
                have HN2 : Hid (rightL ((plL ks).drop (q + 1)) (d + 1) (lastK ks (q + 1)) = res) := Lib.hid (by rw [← HST.out]; simp [kidR])
                rcases Nat.eq_zero_or_pos q with h0 | h0
                · have gq : decide ((q : Int) > 0) = false := by first | (simp; done) | (simp; omega)
                  have gq2 : decide (0 < (q : Int)) = false := by first | (simp; done) | (simp; omega)
                  have gq3 : decide (0 < q) = false := by simp; omega
                  clear h0
                  go_wp2_with (go_at_call 29; go_must (refine HC.out.mono ?_); rintro e w1 ⟨rfl, hb1⟩; have hc1 := fun o => (bcell hb1).1 w.heap.size o hsz; have z1 := zz hb1 hsz)
                  go_roundw
                  case rel => exact ⟨q + 1, by go_num, by omega, HN2, (by first | assumption | (simp [*]; done)), (by first | assumption | (simp [*]; done)), (by first | assumption | (simp; done) | exact zz hb1 (by assumption) | exact zz hb2 (by assumption) | exact zz hb2 (by simp) | exact zz hb1 (by simp) | (simp; omega)), by repeat (with_reducible (first | exact Below.refl _ _ | assumption | apply ba | apply bd | apply bdr | (refine bs ?_ (by first | assumption | (simp; done) | (simp; omega))) | (refine bt ?_ (by assumption))))⟩
                  case measure => simp [intOf]; omega
                · have gq : decide ((q : Int) > 0) = true := by first | (simp; done) | (simp; omega)
                  have gq2 : decide (0 < (q : Int)) = true := by first | (simp; done) | (simp; omega)
                  have gq3 : decide (0 < q) = true := by simpa using h0
                  go_wp2_with (go_at_call 29; go_must (refine HC.out.mono ?_); rintro e w1 ⟨rfl, hb1⟩; have hc1 := fun o => (bcell hb1).1 w.heap.size o hsz; have z1 := zz hb1 hsz)
                  go_roundw
                  case rel => exact ⟨q + 1, by go_num, by omega, HN2, (by first | assumption | (simp [*]; done)), (by first | assumption | (simp [*]; done)), (by first | assumption | (simp; done) | exact zz hb1 (by assumption) | exact zz hb2 (by assumption) | exact zz hb2 (by simp) | exact zz hb1 (by simp) | (simp; omega)), by repeat (with_reducible (first | exact Below.refl _ _ | assumption | apply ba | apply bd | apply bdr | (refine bs ?_ (by first | assumption | (simp; done) | (simp; omega))) | (refine bt ?_ (by assumption))))⟩
                  case measure => simp [intOf]; omega
            · cases r with
              | false =>
                have hr : res = false := by rw [← HST.out, Bool.and_false]; rfl
                subst hr
                go_wp2_with (go_at_call 29; go_must (refine HC.out.mono ?_); rintro e w1 ⟨rfl, hb1⟩; have hc1 := fun o => (bcell hb1).1 w.heap.size o hsz; have z1 := zz hb1 hsz)
                go_ret
                exact ⟨rfl, by repeat (with_reducible (first | exact Below.refl _ _ | assumption | apply ba | apply bd | apply bdr | (refine bs ?_ (by first | assumption | (simp; done) | (simp; omega))) | (refine bt ?_ (by assumption))))⟩
              | true =>
                rcases Nat.eq_zero_or_pos q with h0 | h0
                · have hl0 : lastK ks q = 0 := by rw [h0]; rfl
                  have HN2 : Hid (rightL ((plL ks).drop (q + 1)) (d + 1) (lastK ks (q + 1)) = res) := Lib.hid (by rw [← HST.out, hl0]; simp [kidR])
                  have gq : decide ((q : Int) > 0) = false := by first | (simp; done) | (simp; omega)
                  have gq2 : decide (0 < (q : Int)) = false := by first | (simp; done) | (simp; omega)
                  have gq3 : decide (0 < q) = false := by simp; omega
                  clear h0
                  clear hl0
                  go_wp2_with (go_at_call 29; go_must (refine HC.out.mono ?_); rintro e w1 ⟨rfl, hb1⟩; have hc1 := fun o => (bcell hb1).1 w.heap.size o hsz; have z1 := zz hb1 hsz)
                  go_roundw
                  case rel => exact ⟨q + 1, by go_num, by omega, HN2, (by first | assumption | (simp [*]; done)), (by first | assumption | (simp [*]; done)), (by first | assumption | (simp; done) | exact zz hb1 (by assumption) | exact zz hb2 (by assumption) | exact zz hb2 (by simp) | exact zz hb1 (by simp) | (simp; omega)), by repeat (with_reducible (first | exact Below.refl _ _ | assumption | apply ba | apply bd | apply bdr | (refine bs ?_ (by first | assumption | (simp; done) | (simp; omega))) | (refine bt ?_ (by assumption))))⟩
                  case measure => simp [intOf]; omega
                · obtain ⟨j, rfl⟩ : ∃ j, q = j + 1 := ⟨q - 1, by omega⟩
                  have gq : decide (((j + 1 : Nat) : Int) > 0) = true := by first | (simp; done) | (simp; omega)
                  have gq2 : decide (0 < ((j + 1 : Nat) : Int)) = true := by first | (simp; done) | (simp; omega)
                  have gj : decide ((j : Int) < (nk : Int)) = true := by first | (simp; done) | (simp; omega)
                  obtain ⟨x, hx⟩ : ∃ x, ks[j]? = some x := ⟨_, List.getElem?_eq_getElem (by rw [HNK.out]; omega)⟩
                  have hlk : lastK ks (j + 1) = x.pl.k := by show ((ks[j]?).map fun t => t.pl.k).getD 0 = _; rw [hx]; rfl
                  obtain ⟨kx, nx, vx, Ax, acx, psx, Kx, kcx, ksx⟩ := x
                  obtain ⟨ad3, e3, hPad3, f0, _⟩ := kid_at (HK.out.below HP.out hBW) hx (by omega : j < nk)
                  cases e3
                  have hlk2 : lastK ks (j + 1) = kx := hlk
                  have hb9 : (ad2.add (j * 5)).block < wr.heap.size := by rw [block_of_add]; exact Nat.lt_of_lt_of_le (HP.out _ hPad3) hBW.size
                  by_cases h4 : kx = 4
                  · have hr : res = false := by
                      rw [← HST.out, hlk2, h4]
                      have : kidR 4 4 = false := by decide
                      rw [this]; rfl
                    subst hr
                    subst h4
                    clear hx hlk hlk2
                    go_wp2_with (go_at_call 29; go_must (refine HC.out.mono ?_); rintro e w1 ⟨rfl, hb1⟩; have hc1 := fun o => (bcell hb1).1 w.heap.size o hsz; have z1 := zz hb1 hsz; have he1 := hb1.cell (p := ad2.add (j * 5)) hb9)
                    go_ret
                    exact ⟨rfl, by repeat (with_reducible (first | exact Below.refl _ _ | assumption | apply ba | apply bd | apply bdr | (refine bs ?_ (by first | assumption | (simp; done) | (simp; omega))) | (refine bt ?_ (by assumption))))⟩
                  · have n4 : (kx == 4) = false := by simpa using h4
                    have HN2 : Hid (rightL ((plL ks).drop (j + 1 + 1)) (d + 1) (lastK ks (j + 1 + 1)) = res) := Lib.hid (by
                      rw [← HST.out, hlk2]
                      have : kidR 4 kx = true := by unfold kidR; rw [decide_eq_true_iff]; exact ⟨.inr (.inl rfl), fun h => h4 h.2⟩
                      rw [this]; rfl)
                    clear hx hlk hlk2 h4
                    go_wp2_with (go_at_call 29; go_must (refine HC.out.mono ?_); rintro e w1 ⟨rfl, hb1⟩; have hc1 := fun o => (bcell hb1).1 w.heap.size o hsz; have z1 := zz hb1 hsz; have he1 := hb1.cell (p := ad2.add (j * 5)) hb9)
                    go_roundw
                    case rel => exact ⟨j + 1 + 1, by go_num, by omega, HN2, (by first | assumption | (simp [*]; done)), (by first | assumption | (simp [*]; done)), (by first | assumption | (simp; done) | exact zz hb1 (by assumption) | exact zz hb2 (by assumption) | exact zz hb2 (by simp) | exact zz hb1 (by simp) | (simp; omega)), by repeat (with_reducible (first | exact Below.refl _ _ | assumption | apply ba | apply bd | apply bdr | (refine bs ?_ (by first | assumption | (simp; done) | (simp; omega))) | (refine bt ?_ (by assumption))))⟩
                    case measure => simp [intOf]; omega
            · cases r with
              | false =>
                have hr : res = false := by rw [← HST.out, Bool.and_false]; rfl
                subst hr
                go_wp2_with (go_at_call 29; go_must (refine HC.out.mono ?_); rintro e w1 ⟨rfl, hb1⟩; have hc1 := fun o => (bcell hb1).1 w.heap.size o hsz; have z1 := zz hb1 hsz)
                go_ret
                exact ⟨rfl, by repeat (with_reducible (first | exact Below.refl _ _ | assumption | apply ba | apply bd | apply bdr | (refine bs ?_ (by first | assumption | (simp; done) | (simp; omega))) | (refine bt ?_ (by assumption))))⟩
              | true =>
                have HN2 : Hid (rightL ((plL ks).drop (q + 1)) (d + 1) (lastK ks (q + 1)) = res) := Lib.hid (by rw [← HST.out]; simp [kidR])
                rcases Nat.eq_zero_or_pos q with h0 | h0
                · have gq : decide ((q : Int) > 0) = false := by first | (simp; done) | (simp; omega)
                  have gq2 : decide (0 < (q : Int)) = false := by first | (simp; done) | (simp; omega)
                  have gq3 : decide (0 < q) = false := by simp; omega
                  clear h0
                  go_wp2_with (go_at_call 29; go_must (refine HC.out.mono ?_); rintro e w1 ⟨rfl, hb1⟩; have hc1 := fun o => (bcell hb1).1 w.heap.size o hsz; have z1 := zz hb1 hsz)
                  go_roundw
                  case rel => exact ⟨q + 1, by go_num, by omega, HN2, (by first | assumption | (simp [*]; done)), (by first | assumption | (simp [*]; done)), (by first | assumption | (simp; done) | exact zz hb1 (by assumption) | exact zz hb2 (by assumption) | exact zz hb2 (by simp) | exact zz hb1 (by simp) | (simp; omega)), by repeat (with_reducible (first | exact Below.refl _ _ | assumption | apply ba | apply bd | apply bdr | (refine bs ?_ (by first | assumption | (simp; done) | (simp; omega))) | (refine bt ?_ (by assumption))))⟩
                  case measure => simp [intOf]; omega
                · have gq : decide ((q : Int) > 0) = true := by first | (simp; done) | (simp; omega)
                  have gq2 : decide (0 < (q : Int)) = true := by first | (simp; done) | (simp; omega)
                  have gq3 : decide (0 < q) = true := by simpa using h0
                  go_wp2_with (go_at_call 29; go_must (refine HC.out.mono ?_); rintro e w1 ⟨rfl, hb1⟩; have hc1 := fun o => (bcell hb1).1 w.heap.size o hsz; have z1 := zz hb1 hsz)
                  go_roundw
                  case rel => exact ⟨q + 1, by go_num, by omega, HN2, (by first | assumption | (simp [*]; done)), (by first | assumption | (simp [*]; done)), (by first | assumption | (simp; done) | exact zz hb1 (by assumption) | exact zz hb2 (by assumption) | exact zz hb2 (by simp) | exact zz hb1 (by simp) | (simp; omega)), by repeat (with_reducible (first | exact Below.refl _ _ | assumption | apply ba | apply bd | apply bdr | (refine bs ?_ (by first | assumption | (simp; done) | (simp; omega))) | (refine bt ?_ (by assumption))))⟩
                  case measure => simp [intOf]; omega
          · have n2 : (k' == 2) = false := by simp; omega
            have n4 : (k' == 4) = false := by simp; omega
            have n5 : (k' == 5) = false := by simp; omega
            have m2 : (k' != 2) = true := by simp; omega
            have m4 : (k' != 4) = true := by simp; omega
            have m5 : (k' != 5) = true := by simp; omega
            have hr : res = false := by
              rw [← HST.out]
              have : kidR k' (lastK ks q) = false := by unfold kidR; rw [decide_eq_false_iff_not]; exact fun h => hk h.1
              rw [this]; rfl
            subst hr
            clear hk
            go_wp2
            go_ret
            exact ⟨rfl, by repeat (with_reducible (first | exact Below.refl _ _ | assumption | apply ba | apply bd | apply bdr | (refine bs ?_ (by first | assumption | (simp; done) | (simp; omega))) | (refine bt ?_ (by assumption))))⟩
        · obtain rfl : q = nk := by omega
          have g1 : decide (((q : Nat) : Int) < ((q : Nat) : Int)) = false := by simp
          have hr : res = true := by
            rw [← hrel.out, List.drop_eq_nil_of_le (by rw [plL_len, HNK.out]; exact Nat.le_refl _), rightL]
          subst hr
          go_wp2
          go_ret
          exact ⟨rfl, by repeat (with_reducible (first | exact Below.refl _ _ | assumption | apply ba | apply bd | apply bdr | (refine bs ?_ (by first | assumption | (simp; done) | (simp; omega))) | (refine bt ?_ (by assumption))))⟩
theorem rfp3 (n v : List UInt8) (A K : Option Addr) (ac kc d : Nat) (w : World) (hd : d ≤ 64) (hn : n ≠ []) (HN : Hid (Gives 26 #[.string (ba' n)] (.bool true))) (HV : Hid (Gives 53 #[.string (ba' v)] (.bool true))) : Calls Tryd.prog 29 #[.agg #[.int .i64 3, .string (ba' n), .string (ba' v), .slice A 0 ac, .slice K 0 kc], .int .i64 (d : Int)] w fun e w' => e = .returned (.bool true) ∧ Below w.heap.size w w' := by
  have gd : decide ((d : Int) > 64) = false := by simp; omega
  have gd2 : decide (64 < (d : Int)) = false := by simp; omega
  have gn := isN hn
  clear hn
  go_enter Tryd.func29, Tryd.ntmps29
  go_wp2_with (first
    | (go_at_call 26; go_must (refine (HN.out _).mono ?_); rintro e w1 ⟨rfl, hb1⟩; have hc1 := fun o => (bcell hb1).1 w.heap.size o (by first | (simp; done) | assumption | (simp; omega)); have z1 : w.heap.size < w1.heap.size := zz hb1 (by simp))
    | (go_at_call 53; go_must (refine (HV.out _).mono ?_); rintro e w2 ⟨rfl, hb2⟩; have hc2 := fun o => (bcell hb2).1 w.heap.size o (by first | (simp; done) | assumption | (simp; omega))))
  go_loopw [7] (fun s7 wx => s7 = .int .i64 0 ∧ wx.cell? ⟨w.heap.size, 3, none⟩ = some (.slice A 0 ac) ∧ wx.cell? ⟨w.heap.size, 4, none⟩ = some (.slice K 0 kc) ∧ w.heap.size < wx.heap.size ∧ Below w.heap.size w wx) (fun _ _ => 0)
  case atStart => exact ⟨rfl, (by first | assumption | (simp [*]; done)), (by first | assumption | (simp [*]; done)), (by first | assumption | (simp; done) | exact zz hb1 (by assumption) | exact zz hb2 (by assumption) | exact zz hb2 (by simp) | exact zz hb1 (by simp) | (simp; omega)), by repeat (with_reducible (first | exact Below.refl _ _ | assumption | apply ba | apply bd | apply bdr | (refine bs ?_ (by first | assumption | (simp; done) | (simp; omega))) | (refine bt ?_ (by assumption))))⟩
  case round =>
    obtain ⟨rfl, hb3, hb4, hsz, hBW⟩ := hrel
    go_wp2
    go_loopw [9] (fun s9 wx => s9 = .int .i64 0 ∧ wx.cell? ⟨w.heap.size, 3, none⟩ = some (.slice A 0 ac) ∧ wx.cell? ⟨w.heap.size, 4, none⟩ = some (.slice K 0 kc) ∧ w.heap.size < wx.heap.size ∧ Below w.heap.size w wx) (fun _ _ => 0)
    case atStart => exact ⟨rfl, (by first | assumption | (simp [*]; done)), (by first | assumption | (simp [*]; done)), (by first | assumption | (simp; done) | exact zz hb1 (by assumption) | exact zz hb2 (by assumption) | exact zz hb2 (by simp) | exact zz hb1 (by simp) | (simp; omega)), by repeat (with_reducible (first | exact Below.refl _ _ | assumption | apply ba | apply bd | apply bdr | (refine bs ?_ (by first | assumption | (simp; done) | (simp; omega))) | (refine bt ?_ (by assumption))))⟩
    case round =>
      obtain ⟨rfl, hb3, hb4, hsz, hBW⟩ := hrel
      go_wp2
      go_ret
      exact ⟨rfl, by repeat (with_reducible (first | exact Below.refl _ _ | assumption | apply ba | apply bd | apply bdr | (refine bs ?_ (by first | assumption | (simp; done) | (simp; omega))) | (refine bt ?_ (by assumption))))⟩
theorem rfp4 (n v : List UInt8) (A K : Option Addr) (ac kc d : Nat) (w : World) (hd : d ≤ 64) (hn : n = []) (hv : v ≠ []) (HV : Hid (Gives 53 #[.string (ba' v)] (.bool true))) : Calls Tryd.prog 29 #[.agg #[.int .i64 4, .string (ba' n), .string (ba' v), .slice A 0 ac, .slice K 0 kc], .int .i64 (d : Int)] w fun e w' => e = .returned (.bool true) ∧ Below w.heap.size w w' := by
  have gd : decide ((d : Int) > 64) = false := by simp; omega
  have gd2 : decide (64 < (d : Int)) = false := by simp; omega
  have gn := isE hn
  clear hn
  have gv := isN hv
  clear hv
  go_enter Tryd.func29, Tryd.ntmps29
  go_wp2_with (first
    | (go_at_call 53; go_must (refine (HV.out _).mono ?_); rintro e w2 ⟨rfl, hb2⟩; have hc2 := fun o => (bcell hb2).1 w.heap.size o (by first | (simp; done) | assumption | (simp; omega))))
  go_loopw [7] (fun s7 wx => s7 = .int .i64 0 ∧ wx.cell? ⟨w.heap.size, 3, none⟩ = some (.slice A 0 ac) ∧ wx.cell? ⟨w.heap.size, 4, none⟩ = some (.slice K 0 kc) ∧ w.heap.size < wx.heap.size ∧ Below w.heap.size w wx) (fun _ _ => 0)
  case atStart => exact ⟨rfl, (by first | assumption | (simp [*]; done)), (by first | assumption | (simp [*]; done)), (by first | assumption | (simp; done) | exact zz hb1 (by assumption) | exact zz hb2 (by assumption) | exact zz hb2 (by simp) | exact zz hb1 (by simp) | (simp; omega)), by repeat (with_reducible (first | exact Below.refl _ _ | assumption | apply ba | apply bd | apply bdr | (refine bs ?_ (by first | assumption | (simp; done) | (simp; omega))) | (refine bt ?_ (by assumption))))⟩
  case round =>
    obtain ⟨rfl, hb3, hb4, hsz, hBW⟩ := hrel
    go_wp2
    go_loopw [9] (fun s9 wx => s9 = .int .i64 0 ∧ wx.cell? ⟨w.heap.size, 3, none⟩ = some (.slice A 0 ac) ∧ wx.cell? ⟨w.heap.size, 4, none⟩ = some (.slice K 0 kc) ∧ w.heap.size < wx.heap.size ∧ Below w.heap.size w wx) (fun _ _ => 0)
    case atStart => exact ⟨rfl, (by first | assumption | (simp [*]; done)), (by first | assumption | (simp [*]; done)), (by first | assumption | (simp; done) | exact zz hb1 (by assumption) | exact zz hb2 (by assumption) | exact zz hb2 (by simp) | exact zz hb1 (by simp) | (simp; omega)), by repeat (with_reducible (first | exact Below.refl _ _ | assumption | apply ba | apply bd | apply bdr | (refine bs ?_ (by first | assumption | (simp; done) | (simp; omega))) | (refine bt ?_ (by assumption))))⟩
    case round =>
      obtain ⟨rfl, hb3, hb4, hsz, hBW⟩ := hrel
      go_wp2
      go_ret
      exact ⟨rfl, by repeat (with_reducible (first | exact Below.refl _ _ | assumption | apply ba | apply bd | apply bdr | (refine bs ?_ (by first | assumption | (simp; done) | (simp; omega))) | (refine bt ?_ (by assumption))))⟩
theorem rfp5 (n v : List UInt8) (A K : Option Addr) (ac kc d : Nat) (w : World) (hd : d ≤ 64) (hn : n = []) (HV : Hid (Gives 53 #[.string (ba' v)] (.bool true))) : Calls Tryd.prog 29 #[.agg #[.int .i64 5, .string (ba' n), .string (ba' v), .slice A 0 ac, .slice K 0 kc], .int .i64 (d : Int)] w fun e w' => e = .returned (.bool true) ∧ Below w.heap.size w w' := by
  have gd : decide ((d : Int) > 64) = false := by simp; omega
  have gd2 : decide (64 < (d : Int)) = false := by simp; omega
  have gn := isE hn
  clear hn
  go_enter Tryd.func29, Tryd.ntmps29
  go_wp2_with (first
    | (go_at_call 53; go_must (refine (HV.out _).mono ?_); rintro e w2 ⟨rfl, hb2⟩; have hc2 := fun o => (bcell hb2).1 w.heap.size o (by first | (simp; done) | assumption | (simp; omega))))
  go_loopw [7] (fun s7 wx => s7 = .int .i64 0 ∧ wx.cell? ⟨w.heap.size, 3, none⟩ = some (.slice A 0 ac) ∧ wx.cell? ⟨w.heap.size, 4, none⟩ = some (.slice K 0 kc) ∧ w.heap.size < wx.heap.size ∧ Below w.heap.size w wx) (fun _ _ => 0)
  case atStart => exact ⟨rfl, (by first | assumption | (simp [*]; done)), (by first | assumption | (simp [*]; done)), (by first | assumption | (simp; done) | exact zz hb1 (by assumption) | exact zz hb2 (by assumption) | exact zz hb2 (by simp) | exact zz hb1 (by simp) | (simp; omega)), by repeat (with_reducible (first | exact Below.refl _ _ | assumption | apply ba | apply bd | apply bdr | (refine bs ?_ (by first | assumption | (simp; done) | (simp; omega))) | (refine bt ?_ (by assumption))))⟩
  case round =>
    obtain ⟨rfl, hb3, hb4, hsz, hBW⟩ := hrel
    go_wp2
    go_loopw [9] (fun s9 wx => s9 = .int .i64 0 ∧ wx.cell? ⟨w.heap.size, 3, none⟩ = some (.slice A 0 ac) ∧ wx.cell? ⟨w.heap.size, 4, none⟩ = some (.slice K 0 kc) ∧ w.heap.size < wx.heap.size ∧ Below w.heap.size w wx) (fun _ _ => 0)
    case atStart => exact ⟨rfl, (by first | assumption | (simp [*]; done)), (by first | assumption | (simp [*]; done)), (by first | assumption | (simp; done) | exact zz hb1 (by assumption) | exact zz hb2 (by assumption) | exact zz hb2 (by simp) | exact zz hb1 (by simp) | (simp; omega)), by repeat (with_reducible (first | exact Below.refl _ _ | assumption | apply ba | apply bd | apply bdr | (refine bs ?_ (by first | assumption | (simp; done) | (simp; omega))) | (refine bt ?_ (by assumption))))⟩
    case round =>
      obtain ⟨rfl, hb3, hb4, hsz, hBW⟩ := hrel
      go_wp2
      go_ret
      exact ⟨rfl, by repeat (with_reducible (first | exact Below.refl _ _ | assumption | apply ba | apply bd | apply bdr | (refine bs ?_ (by first | assumption | (simp; done) | (simp; omega))) | (refine bt ?_ (by assumption))))⟩
end Go.Proofs.YtjpopmgnhgancaaDoor
