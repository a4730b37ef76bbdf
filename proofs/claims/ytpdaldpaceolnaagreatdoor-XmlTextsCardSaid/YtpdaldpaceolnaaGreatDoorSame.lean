/- The reference tells whether two trees are the same. No condition beyond what the theorems state. -/
import Derived.Test.YtpdaldpaceolnaaGreatDoorTrees
import Derived.Deep.DeepMust
import Derived.Deep.RegionWith
namespace Go.Proofs.YtpdaldpaceolnaaGreatDoor
open Go.RowKit Go.Lib
set_option maxRecDepth 100000
set_option maxHeartbeats 8000000
def SameR (t : Tr) : Prop := ∀ (u : Tr) (P Q : Nat → Prop) (w : World), t.In P w → u.In Q w → (∀ b, P b → b < w.heap.size) → (∀ b, Q b → b < w.heap.size) → t.pl = u.pl → t.pl.fit →
    Calls Tryz.prog 11 #[t.v, u.v] w fun e w' => e = .returned (.bool true) ∧ Below w.heap.size w w'
theorem same_any : ∀ t : Tr, SameR t := by
  intro t
  induction t using Tr.ind with
  | h k n v A ac ps K kc ks ih =>
    intro u P Q w hin hin2 hP hQ hpl hb
    obtain ⟨k2, n2, v2, A2, ac2, ps2, K2, kc2, us⟩ := u
    rw [Tr.pl, Tr.pl] at hpl
    injection hpl with e1 e2 e3 e4 e5
    subst e1 e2 e3 e4
    have hF := fit_fields hb
    have hkid := fit_kid hb
    rw [Tr.In] at hin hin2
    obtain ⟨hA, hK, hL⟩ := hin
    obtain ⟨hA2, hK2, hL2⟩ := hin2
    have hlen : us.length = ks.length := by rw [← plL_len us, ← plL_len ks, e5]
    have HA := Lib.hid hA; have HA2 := Lib.hid hA2; have HK := Lib.hid hK; have HK2 := Lib.hid hK2; have HL := Lib.hid hL; have HL2 := Lib.hid hL2; have HP := Lib.hid hP; have HQ := Lib.hid hQ; have IH := Lib.hid ih; have HB := Lib.hid hkid; have HE := Lib.hid e5
    show Calls Tryz.prog 11 #[.agg #[.int .i64 k, .string (ba' n), .string (ba' v), .slice A ps.length ac, .slice K ks.length kc], .agg #[.int .i64 k, .string (ba' n), .string (ba' v), .slice A2 ps.length ac2, .slice K2 us.length kc2]] w _
    obtain ⟨np, hnp⟩ : ∃ np, ps.length = np := ⟨_, rfl⟩
    obtain ⟨nk, hnk⟩ : ∃ nk, ks.length = nk := ⟨_, rfl⟩
    rw [hnk] at hlen
    rw [hnp, hnk, hlen]
    have hps : np ≤ 1048576 := by omega
    have hks : nk ≤ 1048576 := by omega
    have HNK := Lib.hid hnk
    have HNU := Lib.hid hlen
    have HNP := Lib.hid hnp
    clear hA hA2 hK hK2 hL hL2 hP hQ ih hkid e5 hlen hnp hnk hF hb
    go_enter Tryz.func11, Tryz.ntmps11
    go_wp2
    go_loopw [5] (fun s5 wx => ∃ i : Nat, s5 = .int .i64 i ∧ i ≤ np ∧ wx.cell? ⟨w.heap.size, 3, none⟩ = some (.slice A np ac) ∧ wx.cell? ⟨w.heap.size + 1, 3, none⟩ = some (.slice A2 np ac2) ∧ wx.cell? ⟨w.heap.size, 4, none⟩ = some (.slice K nk kc) ∧ wx.cell? ⟨w.heap.size + 1, 4, none⟩ = some (.slice K2 nk kc2) ∧ w.heap.size + 1 < wx.heap.size ∧ Below w.heap.size w wx) (fun s5 _ => np - (intOf s5).toNat)
    case atStart => exact ⟨0, rfl, by omega, by simp, by simp, by simp, by simp, by simp, (by repeat (with_reducible (first | exact Below.refl _ _ | assumption | apply ba | apply bd | apply bdr | (refine bs ?_ (by first | assumption | (simp; done) | (simp; omega))) | (refine bt ?_ (by assumption)))))⟩
    case round =>
      obtain ⟨i, rfl, hi, c3, c3', c4, c4', hsz, hBW⟩ := hrel
      by_cases hlt : i < np
      · have g0 : decide ((i : Int) < (np : Int)) = true := by first | (simp; done) | (simp; omega)
        have hil : i < ps.length := by rw [HNP.out]; exact hlt
        obtain ⟨p, hp⟩ : ∃ p, ps[i]? = some p := ⟨_, List.getElem?_eq_getElem hil⟩
        have hpa := HA.out.below HP.out hBW
        have hpb := HA2.out.below HQ.out hBW
        rw [HNP.out] at hpa hpb
        obtain ⟨p1, p2⟩ := p
        obtain ⟨ad, rfl, hPad, d0, d1⟩ := pair_at hpa hp hlt
        obtain ⟨ad2, rfl, hPad2, f0, f1⟩ := pair_at hpb hp hlt
        clear hpa hpb hp hil hPad hPad2
        go_wp2
        go_region_with fail
        all_goals go_wp2
        all_goals go_roundw
        all_goals first
          | (case rel => exact ⟨i + 1, by go_num, by omega, by simp [*], by simp [*], by simp [*], by simp [*], by simp; omega, (by repeat (with_reducible (first | exact Below.refl _ _ | assumption | apply ba | apply bd | apply bdr | (refine bs ?_ (by first | assumption | (simp; done) | (simp; omega))) | (refine bt ?_ (by assumption)))))⟩)
          | (case measure => simp [intOf]; omega)
      · obtain rfl : i = np := by omega
        have g0 : decide (((i : Nat) : Int) < ((i : Nat) : Int)) = false := by simp
        go_wp2
        go_loopw [6] (fun s6 wx => ∃ q : Nat, s6 = .int .i64 q ∧ q ≤ nk ∧ wx.cell? ⟨w.heap.size, 4, none⟩ = some (.slice K nk kc) ∧ wx.cell? ⟨w.heap.size + 1, 4, none⟩ = some (.slice K2 nk kc2) ∧ w.heap.size + 1 < wx.heap.size ∧ Below w.heap.size w wx) (fun s6 _ => nk - (intOf s6).toNat)
        case atStart => exact ⟨0, rfl, by omega, c4, c4', hsz, hBW⟩
        case round =>
          clear hBW hsz c3 c3' c4 c4'
          obtain ⟨q, rfl, hq, c4, c4', hsz, hBW⟩ := hrel
          by_cases hql : q < nk
          · have g1 : decide ((q : Int) < (nk : Int)) = true := by first | (simp; done) | (simp; omega)
            have hqk : q < ks.length := by rw [HNK.out]; exact hql
            have hqu : q < us.length := by rw [HNU.out]; exact hql
            obtain ⟨t, ht⟩ : ∃ t, ks[q]? = some t := ⟨_, List.getElem?_eq_getElem hqk⟩
            obtain ⟨u, hu⟩ : ∃ u, us[q]? = some u := ⟨_, List.getElem?_eq_getElem hqu⟩
            have htm := List.mem_of_getElem? ht
            have hum := List.mem_of_getElem? hu
            have hte : t.pl = u.pl := by
              have h1 := plL_at ht
              have h2 := plL_at hu
              rw [HE.out, h2] at h1
              exact (Option.some.inj h1).symm
            have hi1 := (inL_iff.1 HL.out t htm).below HP.out hBW
            have hi2 := (inL_iff.1 HL2.out u hum).below HQ.out hBW
            have HC := Lib.hid (fun (w1 : World) (hb1 : Below wr.heap.size wr w1) => IH.out t htm u P Q w1 (hi1.below (fun b hb => Nat.lt_of_lt_of_le (HP.out b hb) hBW.size) hb1) (hi2.below (fun b hb => Nat.lt_of_lt_of_le (HQ.out b hb) hBW.size) hb1) (fun b hb => Nat.lt_of_lt_of_le (Nat.lt_of_lt_of_le (HP.out b hb) hBW.size) hb1.size) (fun b hb => Nat.lt_of_lt_of_le (Nat.lt_of_lt_of_le (HQ.out b hb) hBW.size) hb1.size) hte (HB.out t htm))
            have hka := HK.out.below HP.out hBW
            have hkb := HK2.out.below HQ.out hBW
            rw [HNK.out] at hka
            rw [HNU.out] at hkb
            obtain ⟨k', n', v', A', ac', ps', K', kc', ks'⟩ := t
            obtain ⟨k3, n3, v3, A3, ac3, ps3, K3, kc3, ks3⟩ := u
            obtain ⟨ad, rfl, hPad, d0, d1, d2, d3, d4⟩ := kid_at hka ht hql
            obtain ⟨ad2, rfl, hPad2, f0, f1, f2, f3, f4⟩ := kid_at hkb hu hql
            obtain ⟨np', hnp'⟩ : ∃ q, ps'.length = q := ⟨_, rfl⟩
            obtain ⟨nk', hnk'⟩ : ∃ q, ks'.length = q := ⟨_, rfl⟩
            obtain ⟨np3, hnp3⟩ : ∃ q, ps3.length = q := ⟨_, rfl⟩
            obtain ⟨nk3, hnk3⟩ : ∃ q, ks3.length = q := ⟨_, rfl⟩
            simp only [Tr.v] at HC
            rw [hnp', hnk', hnp3, hnk3] at HC
            rw [hnp'] at d3
            rw [hnk'] at d4
            rw [hnp3] at f3
            rw [hnk3] at f4
            have hw0 : w.heap.size < wr.heap.size := by omega
            clear hi1 hi2 hka hkb ht hu htm hum hte hqk hqu hnp' hnk' hnp3 hnk3 hPad hPad2
            go_wp2
            go_region_with (go_at_call 11; refine (HC.out _ (by repeat (with_reducible (first | exact Below.refl _ _ | assumption | apply ba | apply bd | apply bdr | (refine bs ?_ (by first | assumption | (simp; done) | (simp; omega))) | (refine bt ?_ (by assumption)))))).mono ?_; rintro e w9 ⟨rfl, hb9⟩; have hc9 := fun o => (bcell hb9).1 w.heap.size o (by first | (simp; done) | assumption | (simp; omega)); have hd9 := fun o => (bcell hb9).1 (w.heap.size + 1) o (by first | (simp; done) | assumption | (simp; omega)); have hz9 := hb9.size)
            all_goals go_wp2
            all_goals go_roundw
            all_goals first
              | (case rel => exact ⟨q + 1, by go_num, by omega, by simp [*], by simp [*], by simp at hz9; omega, (by repeat (with_reducible (first | exact Below.refl _ _ | assumption | apply ba | apply bd | apply bdr | (refine bs ?_ (by first | assumption | (simp; done) | (simp; omega))) | (refine bt ?_ (by assumption)))))⟩)
              | (case measure => simp [intOf]; omega)
          · obtain rfl : q = nk := by omega
            have g1 : decide (((q : Nat) : Int) < ((q : Nat) : Int)) = false := by simp
            go_wp2
            go_ret
            exact ⟨rfl, (by repeat (with_reducible (first | exact Below.refl _ _ | assumption | apply ba | apply bd | apply bdr | (refine bs ?_ (by first | assumption | (simp; done) | (simp; omega))) | (refine bt ?_ (by assumption)))))⟩
end Go.Proofs.YtpdaldpaceolnaaGreatDoor
