/- The reference tells whether two trees are the same. No condition beyond what the theorems state. -/
import Derived.Test.YtnkodafhjcjpjaaDoorDeep
import Derived.Test.YtnkodafhjcjpjaaDoorCopies
import Derived.Deep.RegionHeld3
import Derived.Deep.DeepCutAuto
import Derived.Deep.RegionWith
namespace Go.Proofs.YtnkodafhjcjpjaaDoor
open Go.RowKit Go.Lib
set_option maxRecDepth 100000
set_option maxHeartbeats 8000000
/-- The kids that count. -/
def noC (L : List Tr) : List Tr := L.filter fun t => kT t != 5
theorem noC_canon : ∀ L : List Tr, canonL (plL L) = (noC L).map fun t => canon t.pl
  | [] => rfl
  | t :: ts => by
    unfold noC
    rw [plL, List.filter_cons]
    by_cases h : kT t = 5
    · rw [canonL_skip (by rw [kT_pl]; exact h), if_neg (by simp [h])]
      exact noC_canon ts
    · rw [canonL_take (by rw [kT_pl]; exact h), if_pos (by simpa using h), List.map_cons]
      exact congrArg _ (noC_canon ts)
theorem noC_take {L : List Tr} {i : Nat} {t : Tr} (h : L[i]? = some t) : noC (L.take (i + 1)) = if kT t = 5 then noC (L.take i) else noC (L.take i) ++ [t] := by
  unfold noC
  rw [List.take_add_one, h, List.filter_append]
  by_cases hk : kT t = 5
  · rw [if_pos hk]; simp [hk]
  · rw [if_neg hk]; simp [hk]
theorem noC_len (L : List Tr) : (noC L).length ≤ L.length := List.length_filter_le _ _
theorem noC_mem {L : List Tr} {t : Tr} (h : t ∈ noC L) : t ∈ L := (List.mem_filter.1 h).1
/-- What comes of plain. -/
def Plains (L : List Tr) (w : World) (e : Ending) (w' : World) : Prop := ∃ A c, e = .returned (.slice A (noC L).length c) ∧ w'.ownsRow w.heap.size 26 5 (.slice A (noC L).length c) (noC L).length (rowT (noC L)) ∧ Below w.heap.size w w'
theorem plain_any (P : Nat → Prop) (K : Option Addr) (n c : Nat) (L : List Tr) (w : World) (hP : ∀ b, P b → b < w.heap.size) (hR : RdP P w 5 K n (rowT L)) (hn : L.length = n) (hn1 : n ≤ 1048576) :
    Calls Tryd.prog 17 #[.slice K n c] w fun e w' => Plains L w e w' := by
  obtain ⟨i5, hi5, hz50, hz51, hz52⟩ := info_parts tree_info
  have HK := Lib.hid hR; have HP := Lib.hid hP; have HN := Lib.hid hn
  clear hR hP hn
  go_enter Tryd.func17, Tryd.ntmps17
  go_wp2
  go_loopw [3, 4] (fun s3 s4 wx => ∃ (i m : Nat) (M : List Tr) (A : Option Addr) (ca : Nat), s4 = .int .i64 i ∧ s3 = .slice A m ca ∧ i ≤ n ∧ m ≤ i ∧ Hid (M = noC (L.take i) ∧ M.length = m) ∧ Hid (wx.ownsRow w.heap.size 26 5 (.slice A m ca) m (rowT M)) ∧ Below w.heap.size w wx) (fun _ s4 _ => n - (intOf s4).toNat)
  case atStart => exact ⟨0, 0, [], none, 0, rfl, rfl, by omega, by omega, Lib.hid ⟨by simp [noC], rfl⟩, Lib.hid (World.ownsRow_nil _ _ _ _), Below.refl _ _⟩
  case round =>
    obtain ⟨i, m, M, A, ca, rfl, rfl, hi, hmi, hM, hown, hBW⟩ := hrel
    by_cases hlt : i < n
    · have g0 : decide ((i : Int) < (n : Int)) = true := by first | (simp; done) | (simp; omega)
      have hil : i < L.length := by rw [HN.out]; exact hlt
      obtain ⟨t, ht⟩ : ∃ t, L[i]? = some t := ⟨_, List.getElem?_eq_getElem hil⟩
      have HTK := Lib.hid (noC_take ht)
      have HCE := Lib.hid (cells_one t)
      obtain ⟨k', n', v', A', ac', ps', K', kc', ks'⟩ := t
      have hka := HK.out.below HP.out hBW
      obtain ⟨ad, rfl, hPad, d0, d1, d2, d3, d4⟩ := kid_at hka ht hlt
      have hsz := hBW.size
      have hIB := Lib.hid hBW
      clear hka ht hil
      by_cases hk : k' = 5
      · subst hk
        have HM2 : Hid (M = noC (L.take (i + 1)) ∧ M.length = m) := Lib.hid ⟨by rw [HTK.out, if_pos (show kT (Tr.mk 5 n' v' A' ac' ps' K' kc' ks') = 5 from rfl)]; exact hM.out.1, hM.out.2⟩
        clear HTK
        go_wp2
        go_roundw
        case rel => exact ⟨i + 1, m, M, A, ca, by go_num, rfl, by omega, by omega, HM2, hown, hBW⟩
        case measure => simp [intOf]; omega
      · have q : (k' != 5) = true := by simpa using hk
        have HM2 : Hid (M ++ [Tr.mk k' n' v' A' ac' ps' K' kc' ks'] = noC (L.take (i + 1)) ∧ (M ++ [Tr.mk k' n' v' A' ac' ps' K' kc' ks']).length = m + 1) := Lib.hid ⟨by rw [HTK.out, if_neg (show ¬ kT (Tr.mk k' n' v' A' ac' ps' K' kc' ks') = 5 from hk), hM.out.1], by rw [List.length_append, hM.out.2]; rfl⟩
        clear HTK hk hBW
        go_wp2_with (at_builtin
                     go_must (refine wpList_append_any _ rfl (.tmp 17) (.tmp 22) _ rfl w.heap.size 26 i5 _ 5 88 Tryd.underlying24 hi5 hz50 hz51 hz52 rfl (by omega) (.slice A m ca) m (rowT M) rfl (hown.out.alloc _) (wr.heap.size + 1) (some ⟨wr.heap.size, 0, none⟩) 1 1 (Tr.cells (.mk k' n' v' A' ac' ps' K' kc' ks')) rfl ⟨rfl, fun _ => ⟨_, rfl, by simp, five_new _ _ _ _ _ _ _⟩⟩ HCE.out (by simp only [maxLen]; omega) (by omega) (by simp; omega) ?_)
                     intro v5 w5 hown5 hg5 hat5
                     obtain ⟨A5, c5, rfl⟩ := own_slice hown5
                     have HO5 := Lib.hid hown5
                     have HB5 : Hid (Below w.heap.size w w5) := Lib.hid (Below.grown (ba hIB.out) hg5 (by simp; omega) (fun k hk => (own_lt hown.out hk).1))
                     clear hown5 hg5 hat5)
        go_roundw
        case rel => exact ⟨i + 1, m + 1, M ++ [Tr.mk k' n' v' A' ac' ps' K' kc' ks'], A5, c5, by go_num, rfl, by omega, by omega, HM2, Lib.hid (by rw [rowT_snoc]; exact HO5.out), HB5.out⟩
        case measure => simp [intOf]; omega
    · obtain rfl : i = n := by omega
      have g0 : decide (((i : Nat) : Int) < ((i : Nat) : Int)) = false := by simp
      have hMe : M = noC L := by rw [hM.out.1, List.take_of_length_le (by rw [HN.out]; exact Nat.le_refl _)]
      have hMl : (noC L).length = m := by rw [← hMe]; exact hM.out.2
      have HO : Hid (Plains L w (.returned (.slice A m ca)) wr) := Lib.hid (by
        unfold Plains
        rw [hMl]
        exact ⟨A, ca, rfl, by rw [← hMe]; exact hown.out, hBW⟩)
      clear hMe hMl hM hown
      go_wp2
      go_ret
      exact HO.out
end Go.Proofs.YtnkodafhjcjpjaaDoor
namespace Go.Proofs.YtnkodafhjcjpjaaDoor
open Go.RowKit Go.Lib
set_option maxRecDepth 100000
set_option maxHeartbeats 8000000
theorem count_any (P : Nat → Prop) (A : Option Addr) (n c : Nat) (L : List (List UInt8 × List UInt8)) (p : List UInt8 × List UInt8) (w : World) (hP : ∀ b, P b → b < w.heap.size) (hR : RdP P w 2 A n (rowP L)) (hn : L.length = n) (hn1 : n ≤ 1048576) :
    Calls Tryd.prog 16 #[.slice A n c, .agg #[.string (ba' p.1), .string (ba' p.2)]] w fun e w' => e = .returned (.int .i64 (L.count p : Nat)) ∧ Below w.heap.size w w' := by
  have HK := Lib.hid hR; have HP := Lib.hid hP; have HN := Lib.hid hn
  clear hR hP hn
  obtain ⟨res, hres⟩ : ∃ res, L.count p = res := ⟨_, rfl⟩
  rw [hres]
  have HRES := Lib.hid hres
  clear hres
  obtain ⟨pa, pb⟩ := p
  simp only
  go_enter Tryd.func16, Tryd.ntmps16
  go_wp2
  go_loopw [5, 6] (fun s5 s6 wx => ∃ (i m : Nat), s6 = .int .i64 i ∧ s5 = .int .i64 m ∧ i ≤ n ∧ m ≤ i ∧ Hid ((L.take i).count (pa, pb) = m) ∧ wx.cell? ⟨w.heap.size, 0, none⟩ = some (.string (ba' pa)) ∧ wx.cell? ⟨w.heap.size, 1, none⟩ = some (.string (ba' pb)) ∧ w.heap.size < wx.heap.size ∧ Below w.heap.size w wx) (fun _ s6 _ => n - (intOf s6).toNat)
  case atStart => exact ⟨0, 0, rfl, rfl, by omega, by omega, Lib.hid (by simp), by simp, by simp, by simp, ba (Below.refl _ _)⟩
  case round =>
    obtain ⟨i, m, rfl, rfl, hi, hmi, hM, x0, x1, hsz, hBW⟩ := hrel
    by_cases hlt : i < n
    · have g0 : decide ((i : Int) < (n : Int)) = true := by first | (simp; done) | (simp; omega)
      have hil : i < L.length := by rw [HN.out]; exact hlt
      obtain ⟨t, ht⟩ : ∃ t, L[i]? = some t := ⟨_, List.getElem?_eq_getElem hil⟩
      have HTK : Hid ((L.take (i + 1)).count (pa, pb) = m + if t = (pa, pb) then 1 else 0) := Lib.hid (by
        rw [List.take_add_one, ht, List.count_append, hM.out]
        show m + [t].count (pa, pb) = _
        rw [List.count_singleton]
        simp)
      have hka := HK.out.below HP.out hBW
      obtain ⟨ad, rfl, hPad, d0, d1⟩ := pair_at hka ht hlt
      obtain ⟨ta, tb⟩ := t
      simp only at d0 d1
      clear hka ht hil hM
      go_upto_region 5 with fail
      by_cases heq : ta = pa
      · subst heq
        by_cases heq2 : tb = pb
        · subst heq2
          rw [if_pos rfl] at HTK
          go_quiet (fail)
          go_wp2
          go_roundw
          case rel => exact ⟨i + 1, m + 1, by go_num, by go_num, by omega, by omega, HTK, x0, x1, hsz, bd hBW⟩
          case measure => simp [intOf]; omega
        · have hb : ((ba' tb).toList == (ba' pb).toList) = false := ba_ne heq2
          rw [if_neg (fun h => heq2 (congrArg Prod.snd h))] at HTK
          clear heq2
          go_quiet (fail)
          go_wp2
          go_roundw
          case rel => exact ⟨i + 1, m, by go_num, rfl, by omega, by omega, HTK, x0, x1, hsz, bd hBW⟩
          case measure => simp [intOf]; omega
      · have hb : ((ba' ta).toList == (ba' pa).toList) = false := ba_ne heq
        rw [if_neg (fun h => heq (congrArg Prod.fst h))] at HTK
        clear heq
        go_quiet (fail)
        go_wp2
        go_roundw
        case rel => exact ⟨i + 1, m, by go_num, rfl, by omega, by omega, HTK, x0, x1, hsz, bd hBW⟩
        case measure => simp [intOf]; omega
    · obtain rfl : i = n := by omega
      have g0 : decide (((i : Nat) : Int) < ((i : Nat) : Int)) = false := by simp
      have hMe : m = res := by rw [← hM.out, List.take_of_length_le (by rw [HN.out]; exact Nat.le_refl _), HRES.out]
      subst hMe
      clear hM
      go_wp2
      go_ret
      exact ⟨rfl, hBW⟩
end Go.Proofs.YtnkodafhjcjpjaaDoor
namespace Go.Proofs.YtnkodafhjcjpjaaDoor
open Go.RowKit Go.Lib
set_option maxRecDepth 100000
set_option maxHeartbeats 16000000
def RefR (t : Tr) : Prop := ∀ (u : Tr) (P Q : Nat → Prop) (w : World), t.In P w → u.In Q w → (∀ b, P b → b < w.heap.size) → (∀ b, Q b → b < w.heap.size) → t.pl.fit → u.pl.fit →
    Calls Tryd.prog 8 #[t.v, u.v] w fun e w' => Tells (canon t.pl = canon u.pl) w e w'
theorem ref_any : ∀ t : Tr, RefR t := by
  intro t
  induction t using Tr.ind with
  | h k n v A ac ps K kc ks ih =>
    intro u P Q w hin hin2 hP hQ hft hfu
    obtain ⟨k', n', v', A', ac', ps', K', kc', us⟩ := u
    have HF1 := Lib.hid (fit_kid hft)
    have HF2 := Lib.hid (fit_kid hfu)
    have hs1 := fit_fields hft
    have hs2 := fit_fields hfu
    have hps : ps.length ≤ 1048576 := hs1.2.2.1
    have hps2 : ps'.length ≤ 1048576 := hs2.2.2.1
    have HSH := Lib.hid (fit_pairs hft)
    rw [Tr.In] at hin hin2
    obtain ⟨hA, hK, hL⟩ := hin
    obtain ⟨hA2, hK2, hL2⟩ := hin2
    have HA := Lib.hid hA; have HA2 := Lib.hid hA2; have HL := Lib.hid hL; have HL2 := Lib.hid hL2; have HP := Lib.hid hP; have HQ := Lib.hid hQ; have IH := Lib.hid ih
    have HPL1 : Hid (∀ w1, Below w.heap.size w w1 → Calls Tryd.prog 17 #[.slice K ks.length kc] w1 fun e w' => Plains ks w1 e w') := Lib.hid fun w1 hb1 => plain_any P K ks.length kc ks w1 (fun b hb => Nat.lt_of_lt_of_le (hP b hb) hb1.size) (hK.below hP hb1) rfl hs1.2.2.2
    have HPL2 : Hid (∀ w1, Below w.heap.size w w1 → Calls Tryd.prog 17 #[.slice K' us.length kc'] w1 fun e w' => Plains us w1 e w') := Lib.hid fun w1 hb1 => plain_any Q K' us.length kc' us w1 (fun b hb => Nat.lt_of_lt_of_le (hQ b hb) hb1.size) (hK2.below hQ hb1) rfl hs2.2.2.2
    have HB0 : Hid (∀ o1 o2, Below w.heap.size w ((w.alloc o1).alloc o2)) := Lib.hid fun _ _ => ba (ba (Below.refl _ _))
    obtain ⟨m1, hm1⟩ : ∃ m1, (noC ks).length = m1 := ⟨_, rfl⟩
    obtain ⟨m2, hm2⟩ : ∃ m2, (noC us).length = m2 := ⟨_, rfl⟩
    have hm1b : m1 ≤ 1048576 := by have := noC_len ks; have := hs1.2.2.2; omega
    have hm2b : m2 ≤ 1048576 := by have := noC_len us; have := hs2.2.2.2; omega
    have HM1 := Lib.hid hm1
    have HM2 := Lib.hid hm2
    clear hA hA2 hK hK2 hL hL2 hP hQ ih hft hfu hs1 hs2 hm1 hm2
    show Calls Tryd.prog 8 #[.agg #[.int .i64 k, .string (ba' n), .string (ba' v), .slice A ps.length ac, .slice K ks.length kc], .agg #[.int .i64 k', .string (ba' n'), .string (ba' v'), .slice A' ps'.length ac', .slice K' us.length kc']] w _
    go_enter Tryd.func8, Tryd.ntmps8
    have hB0 : Below w.heap.size w ((w.alloc (.cells #[.int .i64 k, .string (ba' n), .string (ba' v), .slice A ps.length ac, .slice K ks.length kc] 26)).alloc (.cells #[.int .i64 k', .string (ba' n'), .string (ba' v'), .slice A' ps'.length ac', .slice K' us.length kc'] 26)) := HB0.out _ _
    clear HB0
    have HB0 := Lib.hid hB0
    clear hB0
    by_cases hk : k = k'
    · subst hk
      have HCI := Lib.hid (canon_iff k n v ps (plL ks) n' v' ps' (plL us))
      have g : (k != k) = false := by simp
      by_cases k1 : k = 1
      · subst k1
        rw [if_pos rfl] at HCI
        go_wp2_with fail
        refine (HPL1.out _ HB0.out).mono ?_
        rintro e w1 ⟨A1, c1, rfl, hown1, hb1⟩
        have HO1 := Lib.hid hown1
        have HB1 := Lib.hid hb1
        have hc41 := fun o => (bcell hb1).1 (w.heap.size + 1) o (by first | (simp; done) | assumption | (simp; omega))
        have z1 : w.heap.size + 1 < w1.heap.size := zz hb1 (by first | (simp; done) | assumption)
        clear hown1 hb1
        go_wp2_with fail
        refine (HPL2.out _ (bt HB0.out HB1.out)).mono ?_
        rintro e w2 ⟨A2, c2, rfl, hown2, hb2⟩
        have HO2 := Lib.hid hown2
        have HB2 := Lib.hid hb2
        clear hown2 hb2
        have HBW2 : Hid (Below w.heap.size w w2) := Lib.hid (bt (bt HB0.out HB1.out) HB2.out)
        have HX : Hid (RdP (fun b => b < w2.heap.size) w2 5 A1 m1 (rowT (noC ks))) := Lib.hid (by
          obtain ⟨A9, c9, e9, _, hrd⟩ := own_rd HO1.out
          cases e9
          rw [← HM1.out]
          exact (RdP.keep hrd (fun b h => Nat.lt_of_lt_of_le (own_lt HO1.out h).2 HB2.out.size) (fun p h => HB2.out.cell (own_lt HO1.out h).2)))
        have HY : Hid (RdP (fun b => b < w2.heap.size) w2 5 A2 m2 (rowT (noC us))) := Lib.hid (by
          obtain ⟨A9, c9, e9, _, hrd⟩ := own_rd HO2.out
          cases e9
          rw [← HM2.out]
          exact hrd.keep (fun b h => (own_lt HO2.out h).2) (fun _ _ => rfl))
        rw [HM1.out, HM2.out]
        clear HO1 HO2 HPL1 HPL2
        by_cases hm : m1 = m2
        · subst hm
          have gm : ((m1 : Int) != (m1 : Int)) = false := by simp
          go_wp2
          go_loopw [8] (fun s8 wx => ∃ i : Nat, s8 = .int .i64 i ∧ i ≤ m1 ∧ Hid (((noC ks).take i).map (fun t => canon t.pl) = ((noC us).take i).map (fun t => canon t.pl)) ∧ Below w2.heap.size w2 wx) (fun s8 _ => m1 - (intOf s8).toNat)
          case atStart => exact ⟨0, rfl, by omega, Lib.hid (by simp), Below.refl _ _⟩
          case round =>
            obtain ⟨i, rfl, hi, hE, hBW⟩ := hrel
            have HIB := Lib.hid hBW
            by_cases hlt : i < m1
            · have g1 : decide ((i : Int) < (m1 : Int)) = true := by first | (simp; done) | (simp; omega)
              have hi1 : i < (noC ks).length := by rw [HM1.out]; exact hlt
              have hi2 : i < (noC us).length := by rw [HM2.out]; exact hlt
              obtain ⟨t, ht⟩ : ∃ t, (noC ks)[i]? = some t := ⟨_, List.getElem?_eq_getElem hi1⟩
              obtain ⟨u, hu⟩ : ∃ u, (noC us)[i]? = some u := ⟨_, List.getElem?_eq_getElem hi2⟩
              have htm := noC_mem (List.mem_of_getElem? ht)
              have hum := noC_mem (List.mem_of_getElem? hu)
              have HT1 : Hid (((noC ks).take (i + 1)).map (fun t => canon t.pl) = ((noC ks).take i).map (fun t => canon t.pl) ++ [canon t.pl]) := Lib.hid (by rw [List.take_add_one, ht, List.map_append]; rfl)
              have HT2 : Hid (((noC us).take (i + 1)).map (fun t => canon t.pl) = ((noC us).take i).map (fun t => canon t.pl) ++ [canon u.pl]) := Lib.hid (by rw [List.take_add_one, hu, List.map_append]; rfl)
              have HGT : Hid ((canonL (plL ks))[i]? = some (canon t.pl)) := Lib.hid (by rw [noC_canon, List.getElem?_map, ht]; rfl)
              have HGU : Hid ((canonL (plL us))[i]? = some (canon u.pl)) := Lib.hid (by rw [noC_canon, List.getElem?_map, hu]; rfl)
              have HC := Lib.hid (fun (w3 : World) (hb3 : Below wr.heap.size wr w3) => IH.out t htm u P Q w3
                (((inL_iff.1 HL.out t htm).below HP.out HBW2.out).below (fun b hb => Nat.lt_of_lt_of_le (HP.out b hb) HBW2.out.size) (hBW.trans (hb3.mono hBW.size)))
                (((inL_iff.1 HL2.out u hum).below HQ.out HBW2.out).below (fun b hb => Nat.lt_of_lt_of_le (HQ.out b hb) HBW2.out.size) (hBW.trans (hb3.mono hBW.size)))
                (fun b hb => Nat.lt_of_lt_of_le (HP.out b hb) (Nat.le_trans HBW2.out.size (Nat.le_trans hBW.size hb3.size))) (fun b hb => Nat.lt_of_lt_of_le (HQ.out b hb) (Nat.le_trans HBW2.out.size (Nat.le_trans hBW.size hb3.size))) (HF1.out t htm) (HF2.out u hum))
              have hka := HX.out.below (fun _ h => h) hBW
              have hkb := HY.out.below (fun _ h => h) hBW
              obtain ⟨k', n', v', A', ac', ps', K', kc', ks'⟩ := t
              obtain ⟨k3, n3, v3, A3, ac3, ps3, K3, kc3, ks3⟩ := u
              obtain ⟨ad, rfl, hPad, d0, d1, d2, d3, d4⟩ := kid_at hka ht hlt
              obtain ⟨ad2, rfl, hPad2, f0, f1, f2, f3, f4⟩ := kid_at hkb hu hlt
              simp only [Tr.v] at HC
              have hlA : (ad.add (i * 5)).block < wr.heap.size := by rw [block_of_add]; exact Nat.lt_of_lt_of_le hPad hBW.size
              have hlB : (ad2.add (i * 5)).block < wr.heap.size := by rw [block_of_add]; exact Nat.lt_of_lt_of_le hPad2 hBW.size
              clear hka hkb ht hu htm hum hi1 hi2 hPad hPad2 hBW
              go_upto_region 24 with fail
              go_cut [115] (fun s115 wx => ∃ r, s115 = .bool (!r) ∧ Hid (r = true ↔ canon (Tr.mk k' n' v' A' ac' ps' K' kc' ks').pl = canon (Tr.mk k3 n3 v3 A3 ac3 ps3 K3 kc3 ks3).pl) ∧ Below wr.heap.size wr wx)
              case first =>
                go_region_held3 (fun w' => w'.cell? (ad.add (i * 5)) = some (.int .i64 k') ∧ w'.cell? {block := (ad.add (i * 5)).block, off := (ad.add (i * 5)).off + 1} = some (.string (ba' n')) ∧ w'.cell? {block := (ad.add (i * 5)).block, off := (ad.add (i * 5)).off + 2} = some (.string (ba' v')) ∧ w'.cell? {block := (ad.add (i * 5)).block, off := (ad.add (i * 5)).off + 3} = some (.slice A' ps'.length ac') ∧ w'.cell? {block := (ad.add (i * 5)).block, off := (ad.add (i * 5)).off + 4} = some (.slice K' ks'.length kc') ∧ w'.cell? (ad2.add (i * 5)) = some (.int .i64 k3) ∧ w'.cell? {block := (ad2.add (i * 5)).block, off := (ad2.add (i * 5)).off + 1} = some (.string (ba' n3)) ∧ w'.cell? {block := (ad2.add (i * 5)).block, off := (ad2.add (i * 5)).off + 2} = some (.string (ba' v3)) ∧ w'.cell? {block := (ad2.add (i * 5)).block, off := (ad2.add (i * 5)).off + 3} = some (.slice A3 ps3.length ac3) ∧ w'.cell? {block := (ad2.add (i * 5)).block, off := (ad2.add (i * 5)).off + 4} = some (.slice K3 ks3.length kc3) ∧ Below wr.heap.size wr w')
                  ((refine (fun hR : Below wr.heap.size wr _ => ⟨(hR.cell hlA).trans d0, (hR.cell (p := {block := (ad.add (i * 5)).block, off := (ad.add (i * 5)).off + 1}) hlA).trans d1, (hR.cell (p := {block := (ad.add (i * 5)).block, off := (ad.add (i * 5)).off + 2}) hlA).trans d2, (hR.cell (p := {block := (ad.add (i * 5)).block, off := (ad.add (i * 5)).off + 3}) hlA).trans d3, (hR.cell (p := {block := (ad.add (i * 5)).block, off := (ad.add (i * 5)).off + 4}) hlA).trans d4, (hR.cell hlB).trans f0, (hR.cell (p := {block := (ad2.add (i * 5)).block, off := (ad2.add (i * 5)).off + 1}) hlB).trans f1, (hR.cell (p := {block := (ad2.add (i * 5)).block, off := (ad2.add (i * 5)).off + 2}) hlB).trans f2, (hR.cell (p := {block := (ad2.add (i * 5)).block, off := (ad2.add (i * 5)).off + 3}) hlB).trans f3, (hR.cell (p := {block := (ad2.add (i * 5)).block, off := (ad2.add (i * 5)).off + 4}) hlB).trans f4, hR⟩) ?_; repeat (with_reducible (first | exact Below.refl _ _ | assumption | apply ba | apply bd | apply bdr | (refine bt ?_ (by assumption))))))
                  (first
                    | (go_at_call 8; refine (HC.out _ (by repeat (with_reducible (first | exact Below.refl _ _ | assumption | apply ba | apply bd | apply bdr | (refine bs ?_ (by first | assumption | (simp; done) | (simp; omega))) | (refine bt ?_ (by assumption)))))).mono ?_; rintro e w9 ⟨r, rfl, hr, hb9⟩; have HR := Lib.hid hr; clear hr; have B9 : Below wr.heap.size wr w9 := (by repeat (with_reducible (first | exact Below.refl _ _ | assumption | apply ba | apply bd | apply bdr | (refine bs ?_ (by first | assumption | (simp; done) | (simp; omega))) | (refine bt ?_ (by assumption)))))))
                all_goals (first | (go_wp2_with fail; go_meet) | go_meet)
                all_goals exact ⟨r, rfl, HR, (by repeat (with_reducible (first | exact Below.refl _ _ | assumption | apply ba | apply bd | apply bdr | (refine bs ?_ (by first | assumption | (simp; done) | (simp; omega))) | (refine bt ?_ (by assumption)))))⟩
              case rest =>
                obtain ⟨r, rfl, HR, hbc⟩ := hcut
                have HBC := Lib.hid hbc
                clear hbc d0 d1 d2 d3 d4 f0 f1 f2 f3 f4 HC
                cases r
                · go_wp2
                  go_ret
                  refine Tells.no (fun h => ?_) (bt (bt HBW2.out HIB.out) HBC.out)
                  have h2 := HCI.out.1 h
                  have h3 := HGT.out
                  rw [h2, HGU.out] at h3
                  have := HR.out.2 (Option.some.inj h3).symm
                  cases this
                · have HE2 : Hid (((noC ks).take (i + 1)).map (fun t => canon t.pl) = ((noC us).take (i + 1)).map (fun t => canon t.pl)) := Lib.hid (by rw [HT1.out, HT2.out, hE.out, HR.out.1 rfl])
                  go_wp2
                  go_roundw
                  case rel => exact ⟨i + 1, by go_num, by omega, HE2, bt HIB.out HBC.out⟩
                  case measure => simp [intOf]; omega
            · obtain rfl : i = m1 := by omega
              have g1 : decide (((i : Nat) : Int) < ((i : Nat) : Int)) = false := by simp
              have HKE : Hid (canonL (plL ks) = canonL (plL us)) := Lib.hid (by
                have := hE.out
                rw [List.take_of_length_le (by rw [HM1.out]; exact Nat.le_refl _), List.take_of_length_le (by rw [HM2.out]; exact Nat.le_refl _)] at this
                rw [noC_canon, noC_canon, this])
              clear hE
              go_wp2
              go_ret
              exact Tells.yes (HCI.out.2 HKE.out) (bt HBW2.out HIB.out)
        · have gm : ((m1 : Int) != (m2 : Int)) = true := by
            rw [bne_iff_ne]
            exact fun e => hm (by omega)
          have HNE : Hid (¬ canonL (plL ks) = canonL (plL us)) := Lib.hid (fun h => hm (by
            have := congrArg List.length h
            rw [noC_canon, noC_canon, List.length_map, List.length_map, HM1.out, HM2.out] at this
            exact this))
          clear hm
          go_wp2
          go_ret
          exact Tells.no (fun h => HNE.out (HCI.out.1 h)) HBW2.out
      rw [if_neg k1] at HCI
      have g1 : (k == 1) = false := by simpa using k1
      have g1' : (k != 1) = true := by simpa using k1
      by_cases k2 : k = 2
      · subst k2
        rw [if_pos rfl] at HCI
        by_cases hn : n = n'
        · subst hn
          by_cases hpl : ps.length = ps'.length
          · have HYES : Hid (cntP ps = cntP ps' → canonL (plL ks) = canonL (plL us) → canon (PT.mk 2 n v ps (plL ks)) = canon (PT.mk 2 n v' ps' (plL us))) := Lib.hid fun h1 h2 => HCI.out.2 ⟨rfl, h1, h2⟩
            have HNO1 : Hid (canon (PT.mk 2 n v ps (plL ks)) = canon (PT.mk 2 n v' ps' (plL us)) → cntP ps = cntP ps') := Lib.hid fun h => (HCI.out.1 h).2.1
            have HNO2 : Hid (canon (PT.mk 2 n v ps (plL ks)) = canon (PT.mk 2 n v' ps' (plL us)) → canonL (plL ks) = canonL (plL us)) := Lib.hid fun h => (HCI.out.1 h).2.2
            have HLP := Lib.hid hpl
            have gl : ((ps.length : Int) != (ps'.length : Int)) = false := by rw [hpl]; simp
            have HC1 : Hid (∀ (w1 : World) (p : List UInt8 × List UInt8), Below w.heap.size w w1 → Calls Tryd.prog 16 #[.slice A ps.length ac, .agg #[.string (ba' p.1), .string (ba' p.2)]] w1 fun e w' => e = .returned (.int .i64 (ps.count p : Nat)) ∧ Below w1.heap.size w1 w') := Lib.hid fun w1 p hb1 => count_any P A ps.length ac ps p w1 (fun b hb => Nat.lt_of_lt_of_le (HP.out b hb) hb1.size) (HA.out.below HP.out hb1) rfl hps
            have HC2 : Hid (∀ (w1 : World) (p : List UInt8 × List UInt8), Below w.heap.size w w1 → Calls Tryd.prog 16 #[.slice A' ps'.length ac', .agg #[.string (ba' p.1), .string (ba' p.2)]] w1 fun e w' => e = .returned (.int .i64 (ps'.count p : Nat)) ∧ Below w1.heap.size w1 w') := Lib.hid fun w1 p hb1 => count_any Q A' ps'.length ac' ps' p w1 (fun b hb => Nat.lt_of_lt_of_le (HQ.out b hb) hb1.size) (HA2.out.below HQ.out hb1) rfl hps2
            clear hpl HCI
            go_wp2
            go_loopw [5] (fun s5 wx => ∃ i : Nat, s5 = .int .i64 i ∧ i ≤ ps.length ∧ Hid (∀ p ∈ ps.take i, ps.count p = ps'.count p) ∧ wx.cell? ⟨w.heap.size, 0, none⟩ = some (.int .i64 2) ∧ wx.cell? ⟨w.heap.size, 3, none⟩ = some (.slice A ps.length ac) ∧ wx.cell? ⟨w.heap.size, 4, none⟩ = some (.slice K ks.length kc) ∧ wx.cell? ⟨w.heap.size + 1, 3, none⟩ = some (.slice A' ps'.length ac') ∧ wx.cell? ⟨w.heap.size + 1, 4, none⟩ = some (.slice K' us.length kc') ∧ w.heap.size + 1 < wx.heap.size ∧ w.heap.size < wx.heap.size ∧ Below w.heap.size w wx) (fun s5 _ => ps.length - (intOf s5).toNat)
            case atStart => exact ⟨0, rfl, by omega, Lib.hid (by simp), by simp, by simp, by simp, by simp, by simp, by simp, by simp; omega, HB0.out⟩
            case round =>
              obtain ⟨i, rfl, hi, hE, x0, x3, x4, y3, y4, z1, z0, hBW⟩ := hrel
              have HIB := Lib.hid hBW
              by_cases hlt : i < ps.length
              · have g1 : decide ((i : Int) < (ps.length : Int)) = true := by first | (simp; done) | (simp; omega)
                obtain ⟨p, hp⟩ : ∃ p, ps[i]? = some p := ⟨_, List.getElem?_eq_getElem hlt⟩
                have HTK : Hid (ps.count p = ps'.count p → ∀ q ∈ ps.take (i + 1), ps.count q = ps'.count q) := Lib.hid (by
                  intro h q hq
                  rw [List.take_add_one, hp] at hq
                  rcases List.mem_append.1 hq with hq | hq
                  · exact hE.out q hq
                  · obtain rfl : q = p := by simpa using hq
                    exact h)
                have HNC : Hid (¬ ps.count p = ps'.count p → ¬ cntP ps = cntP ps') := Lib.hid (fun h h2 => h (congrFun h2 p))
                have hka := HA.out.below HP.out hBW
                obtain ⟨ad, hadA, hPad, d0, d1⟩ := pair_at hka hp hlt
                have HD1 := Lib.hid (fun w1 hb1 => HC1.out w1 p hb1)
                have HD2 := Lib.hid (fun w1 hb1 => HC2.out w1 p hb1)
                obtain ⟨c1, hc1⟩ : ∃ c, ps.count p = c := ⟨_, rfl⟩
                obtain ⟨c2, hc2⟩ : ∃ c, ps'.count p = c := ⟨_, rfl⟩
                rw [hc1] at HD1 HTK HNC
                rw [hc2] at HD2 HTK HNC
                obtain ⟨pa, pb⟩ := p
                simp only at d0 d1 HD1 HD2
                have hlA : (ad.add (i * 2)).block < wr.heap.size := by rw [block_of_add]; exact Nat.lt_of_lt_of_le (HP.out _ hPad) hBW.size
                obtain ⟨b, hb⟩ : ∃ b, ((c1 : Int) != (c2 : Int)) = b := ⟨_, rfl⟩
                have HBB : Hid (b = false ↔ c1 = c2) := Lib.hid (by
                  rw [← hb, bne_eq_false_iff_eq]
                  omega)
                subst hadA
                clear hka hp hc1 hc2 hPad hE hBW
                go_upto_region 13 with fail
                go_cut [80] (fun s80 wx => s80 = .bool b ∧ Below wr.heap.size wr wx)
                case first =>
                  go_region_held3 (fun w' => w'.cell? ⟨w.heap.size, 3, none⟩ = some (.slice (some ad) ps.length ac) ∧ w'.cell? ⟨w.heap.size + 1, 3, none⟩ = some (.slice A' ps'.length ac') ∧ w'.cell? (ad.add (i * 2)) = some (.string (ba' pa)) ∧ w'.cell? {block := (ad.add (i * 2)).block, off := (ad.add (i * 2)).off + 1} = some (.string (ba' pb)) ∧ Below wr.heap.size wr w')
                    ((refine (fun hR : Below wr.heap.size wr _ => ⟨(hR.cell (p := ⟨w.heap.size, 3, none⟩) z0).trans x3, (hR.cell (p := ⟨w.heap.size + 1, 3, none⟩) z1).trans y3, (hR.cell hlA).trans d0, (hR.cell (p := {block := (ad.add (i * 2)).block, off := (ad.add (i * 2)).off + 1}) hlA).trans d1, hR⟩) ?_; repeat (with_reducible (first | exact Below.refl _ _ | assumption | apply ba | apply bd | apply bdr | (refine bt ?_ (by assumption))))))
                    (first
                      | (go_at_call 16; (first | (with_reducible refine (HD1.out _ (bt HIB.out (by repeat (with_reducible (first | exact Below.refl _ _ | assumption | apply ba | apply bd | apply bdr | (refine bs ?_ (by first | assumption | (simp; done) | (simp; omega))) | (refine bt ?_ (by assumption))))))).mono ?_) | (with_reducible refine (HD2.out _ (bt HIB.out (by repeat (with_reducible (first | exact Below.refl _ _ | assumption | apply ba | apply bd | apply bdr | (refine bs ?_ (by first | assumption | (simp; done) | (simp; omega))) | (refine bt ?_ (by assumption))))))).mono ?_)); rintro e w9 ⟨rfl, hb9⟩; have B9 : Below wr.heap.size wr w9 := (by repeat (with_reducible (first | exact Below.refl _ _ | assumption | apply ba | apply bd | apply bdr | (refine bs ?_ (by first | assumption | (simp; done) | (simp; omega))) | (refine bt ?_ (by assumption)))))))
                  all_goals (first | (go_wp2_with fail; go_meet) | go_meet)
                  all_goals exact ⟨by first | rfl | (rw [← hb]), (by repeat (with_reducible (first | exact Below.refl _ _ | assumption | apply ba | apply bd | apply bdr | (refine bs ?_ (by first | assumption | (simp; done) | (simp; omega))) | (refine bt ?_ (by assumption)))))⟩
                case rest =>
                  obtain ⟨rfl, hbc⟩ := hcut
                  have HBC := Lib.hid hbc
                  have f := fun o => hbc.cell (p := ⟨w.heap.size, o, none⟩) z0
                  have f' := fun o => hbc.cell (p := ⟨w.heap.size + 1, o, none⟩) z1
                  have x0' := (f 0).trans x0
                  have x3' := (f 3).trans x3
                  have x4' := (f 4).trans x4
                  have y3' := (f' 3).trans y3
                  have y4' := (f' 4).trans y4
                  have z0' := Nat.lt_of_lt_of_le z0 hbc.size
                  have z1' := Nat.lt_of_lt_of_le z1 hbc.size
                  clear hbc d0 d1 HD1 HD2 f f' x0 x3 x4 y3 y4 z0 z1 hb hlA
                  cases b
                  · go_wp2
                    go_roundw
                    case rel => exact ⟨i + 1, by go_num, by omega, Lib.hid (HTK.out (HBB.out.1 rfl)), x0', x3', x4', y3', y4', z1', z0', bt HIB.out HBC.out⟩
                    case measure => simp [intOf]; omega
                  · go_wp2
                    go_ret
                    exact Tells.no (fun h => HNC.out (fun hc => by have := HBB.out.2 hc; cases this) (HNO1.out h)) (bt HIB.out HBC.out)
              · obtain rfl : i = ps.length := by omega
                have g1 : decide ((ps.length : Int) < (ps.length : Int)) = false := by simp
                have HCN : Hid (cntP ps = cntP ps') := Lib.hid (cnt_same.2 ⟨HLP.out, fun p hp => hE.out p (by rw [List.take_length]; exact hp)⟩)
                clear hE HB0 HC1 HC2 hlt
                have HYES2 : Hid (canonL (plL ks) = canonL (plL us) → canon (PT.mk 2 n v ps (plL ks)) = canon (PT.mk 2 n v' ps' (plL us))) := Lib.hid (HYES.out HCN.out)
                clear HYES HNO1 HCN gl
                go_wp2_with fail
                refine (HPL1.out _ HIB.out).mono ?_
                rintro e w1 ⟨A1, c1, rfl, hown1, hb1⟩
                have HO1 := Lib.hid hown1
                have HB1 := Lib.hid hb1
                have hc41 := fun o => (bcell hb1).1 (w.heap.size + 1) o (by first | (simp; done) | assumption | (simp; omega))
                have z1 : w.heap.size + 1 < w1.heap.size := zz hb1 (by first | (simp; done) | assumption)
                clear hown1 hb1
                go_wp2_with fail
                refine (HPL2.out _ (bt HIB.out HB1.out)).mono ?_
                rintro e w2 ⟨A2, c2, rfl, hown2, hb2⟩
                have HO2 := Lib.hid hown2
                have HB2 := Lib.hid hb2
                clear hown2 hb2
                have HBW2 : Hid (Below w.heap.size w w2) := Lib.hid (bt (bt HIB.out HB1.out) HB2.out)
                have HX : Hid (RdP (fun b => b < w2.heap.size) w2 5 A1 m1 (rowT (noC ks))) := Lib.hid (by
                  obtain ⟨A9, c9, e9, _, hrd⟩ := own_rd HO1.out
                  cases e9
                  rw [← HM1.out]
                  exact (RdP.keep hrd (fun b h => Nat.lt_of_lt_of_le (own_lt HO1.out h).2 HB2.out.size) (fun p h => HB2.out.cell (own_lt HO1.out h).2)))
                have HY : Hid (RdP (fun b => b < w2.heap.size) w2 5 A2 m2 (rowT (noC us))) := Lib.hid (by
                  obtain ⟨A9, c9, e9, _, hrd⟩ := own_rd HO2.out
                  cases e9
                  rw [← HM2.out]
                  exact hrd.keep (fun b h => (own_lt HO2.out h).2) (fun _ _ => rfl))
                rw [HM1.out, HM2.out]
                clear HO1 HO2 HPL1 HPL2
                by_cases hm : m1 = m2
                · subst hm
                  have gm : ((m1 : Int) != (m1 : Int)) = false := by simp
                  go_wp2
                  go_loopw [8] (fun s8 wx => ∃ i : Nat, s8 = .int .i64 i ∧ i ≤ m1 ∧ Hid (((noC ks).take i).map (fun t => canon t.pl) = ((noC us).take i).map (fun t => canon t.pl)) ∧ Below w2.heap.size w2 wx) (fun s8 _ => m1 - (intOf s8).toNat)
                  case atStart => exact ⟨0, rfl, by omega, Lib.hid (by simp), Below.refl _ _⟩
                  case round =>
                    obtain ⟨i, rfl, hi, hE, hBW⟩ := hrel
                    have HIB := Lib.hid hBW
                    by_cases hlt : i < m1
                    · have g1 : decide ((i : Int) < (m1 : Int)) = true := by first | (simp; done) | (simp; omega)
                      have hi1 : i < (noC ks).length := by rw [HM1.out]; exact hlt
                      have hi2 : i < (noC us).length := by rw [HM2.out]; exact hlt
                      obtain ⟨t, ht⟩ : ∃ t, (noC ks)[i]? = some t := ⟨_, List.getElem?_eq_getElem hi1⟩
                      obtain ⟨u, hu⟩ : ∃ u, (noC us)[i]? = some u := ⟨_, List.getElem?_eq_getElem hi2⟩
                      have htm := noC_mem (List.mem_of_getElem? ht)
                      have hum := noC_mem (List.mem_of_getElem? hu)
                      have HT1 : Hid (((noC ks).take (i + 1)).map (fun t => canon t.pl) = ((noC ks).take i).map (fun t => canon t.pl) ++ [canon t.pl]) := Lib.hid (by rw [List.take_add_one, ht, List.map_append]; rfl)
                      have HT2 : Hid (((noC us).take (i + 1)).map (fun t => canon t.pl) = ((noC us).take i).map (fun t => canon t.pl) ++ [canon u.pl]) := Lib.hid (by rw [List.take_add_one, hu, List.map_append]; rfl)
                      have HGT : Hid ((canonL (plL ks))[i]? = some (canon t.pl)) := Lib.hid (by rw [noC_canon, List.getElem?_map, ht]; rfl)
                      have HGU : Hid ((canonL (plL us))[i]? = some (canon u.pl)) := Lib.hid (by rw [noC_canon, List.getElem?_map, hu]; rfl)
                      have HC := Lib.hid (fun (w3 : World) (hb3 : Below wr.heap.size wr w3) => IH.out t htm u P Q w3
                        (((inL_iff.1 HL.out t htm).below HP.out HBW2.out).below (fun b hb => Nat.lt_of_lt_of_le (HP.out b hb) HBW2.out.size) (hBW.trans (hb3.mono hBW.size)))
                        (((inL_iff.1 HL2.out u hum).below HQ.out HBW2.out).below (fun b hb => Nat.lt_of_lt_of_le (HQ.out b hb) HBW2.out.size) (hBW.trans (hb3.mono hBW.size)))
                        (fun b hb => Nat.lt_of_lt_of_le (HP.out b hb) (Nat.le_trans HBW2.out.size (Nat.le_trans hBW.size hb3.size))) (fun b hb => Nat.lt_of_lt_of_le (HQ.out b hb) (Nat.le_trans HBW2.out.size (Nat.le_trans hBW.size hb3.size))) (HF1.out t htm) (HF2.out u hum))
                      have hka := HX.out.below (fun _ h => h) hBW
                      have hkb := HY.out.below (fun _ h => h) hBW
                      obtain ⟨k', n', v', A', ac', ps', K', kc', ks'⟩ := t
                      obtain ⟨k3, n3, v3, A3, ac3, ps3, K3, kc3, ks3⟩ := u
                      obtain ⟨ad, rfl, hPad, d0, d1, d2, d3, d4⟩ := kid_at hka ht hlt
                      obtain ⟨ad2, rfl, hPad2, f0, f1, f2, f3, f4⟩ := kid_at hkb hu hlt
                      simp only [Tr.v] at HC
                      have hlA : (ad.add (i * 5)).block < wr.heap.size := by rw [block_of_add]; exact Nat.lt_of_lt_of_le hPad hBW.size
                      have hlB : (ad2.add (i * 5)).block < wr.heap.size := by rw [block_of_add]; exact Nat.lt_of_lt_of_le hPad2 hBW.size
                      clear hka hkb ht hu htm hum hi1 hi2 hPad hPad2 hBW
                      go_upto_region 24 with fail
                      go_cut [115] (fun s115 wx => ∃ r, s115 = .bool (!r) ∧ Hid (r = true ↔ canon (Tr.mk k' n' v' A' ac' ps' K' kc' ks').pl = canon (Tr.mk k3 n3 v3 A3 ac3 ps3 K3 kc3 ks3).pl) ∧ Below wr.heap.size wr wx)
                      case first =>
                        go_region_held3 (fun w' => w'.cell? (ad.add (i * 5)) = some (.int .i64 k') ∧ w'.cell? {block := (ad.add (i * 5)).block, off := (ad.add (i * 5)).off + 1} = some (.string (ba' n')) ∧ w'.cell? {block := (ad.add (i * 5)).block, off := (ad.add (i * 5)).off + 2} = some (.string (ba' v')) ∧ w'.cell? {block := (ad.add (i * 5)).block, off := (ad.add (i * 5)).off + 3} = some (.slice A' ps'.length ac') ∧ w'.cell? {block := (ad.add (i * 5)).block, off := (ad.add (i * 5)).off + 4} = some (.slice K' ks'.length kc') ∧ w'.cell? (ad2.add (i * 5)) = some (.int .i64 k3) ∧ w'.cell? {block := (ad2.add (i * 5)).block, off := (ad2.add (i * 5)).off + 1} = some (.string (ba' n3)) ∧ w'.cell? {block := (ad2.add (i * 5)).block, off := (ad2.add (i * 5)).off + 2} = some (.string (ba' v3)) ∧ w'.cell? {block := (ad2.add (i * 5)).block, off := (ad2.add (i * 5)).off + 3} = some (.slice A3 ps3.length ac3) ∧ w'.cell? {block := (ad2.add (i * 5)).block, off := (ad2.add (i * 5)).off + 4} = some (.slice K3 ks3.length kc3) ∧ Below wr.heap.size wr w')
                          ((refine (fun hR : Below wr.heap.size wr _ => ⟨(hR.cell hlA).trans d0, (hR.cell (p := {block := (ad.add (i * 5)).block, off := (ad.add (i * 5)).off + 1}) hlA).trans d1, (hR.cell (p := {block := (ad.add (i * 5)).block, off := (ad.add (i * 5)).off + 2}) hlA).trans d2, (hR.cell (p := {block := (ad.add (i * 5)).block, off := (ad.add (i * 5)).off + 3}) hlA).trans d3, (hR.cell (p := {block := (ad.add (i * 5)).block, off := (ad.add (i * 5)).off + 4}) hlA).trans d4, (hR.cell hlB).trans f0, (hR.cell (p := {block := (ad2.add (i * 5)).block, off := (ad2.add (i * 5)).off + 1}) hlB).trans f1, (hR.cell (p := {block := (ad2.add (i * 5)).block, off := (ad2.add (i * 5)).off + 2}) hlB).trans f2, (hR.cell (p := {block := (ad2.add (i * 5)).block, off := (ad2.add (i * 5)).off + 3}) hlB).trans f3, (hR.cell (p := {block := (ad2.add (i * 5)).block, off := (ad2.add (i * 5)).off + 4}) hlB).trans f4, hR⟩) ?_; repeat (with_reducible (first | exact Below.refl _ _ | assumption | apply ba | apply bd | apply bdr | (refine bt ?_ (by assumption))))))
                          (first
                            | (go_at_call 8; refine (HC.out _ (by repeat (with_reducible (first | exact Below.refl _ _ | assumption | apply ba | apply bd | apply bdr | (refine bs ?_ (by first | assumption | (simp; done) | (simp; omega))) | (refine bt ?_ (by assumption)))))).mono ?_; rintro e w9 ⟨r, rfl, hr, hb9⟩; have HR := Lib.hid hr; clear hr; have B9 : Below wr.heap.size wr w9 := (by repeat (with_reducible (first | exact Below.refl _ _ | assumption | apply ba | apply bd | apply bdr | (refine bs ?_ (by first | assumption | (simp; done) | (simp; omega))) | (refine bt ?_ (by assumption)))))))
                        all_goals (first | (go_wp2_with fail; go_meet) | go_meet)
                        all_goals exact ⟨r, rfl, HR, (by repeat (with_reducible (first | exact Below.refl _ _ | assumption | apply ba | apply bd | apply bdr | (refine bs ?_ (by first | assumption | (simp; done) | (simp; omega))) | (refine bt ?_ (by assumption)))))⟩
                      case rest =>
                        obtain ⟨r, rfl, HR, hbc⟩ := hcut
                        have HBC := Lib.hid hbc
                        clear hbc d0 d1 d2 d3 d4 f0 f1 f2 f3 f4 HC
                        cases r
                        · go_wp2
                          go_ret
                          refine Tells.no (fun h => ?_) (bt (bt HBW2.out HIB.out) HBC.out)
                          have h2 := HNO2.out h
                          have h3 := HGT.out
                          rw [h2, HGU.out] at h3
                          have := HR.out.2 (Option.some.inj h3).symm
                          cases this
                        · have HE2 : Hid (((noC ks).take (i + 1)).map (fun t => canon t.pl) = ((noC us).take (i + 1)).map (fun t => canon t.pl)) := Lib.hid (by rw [HT1.out, HT2.out, hE.out, HR.out.1 rfl])
                          go_wp2
                          go_roundw
                          case rel => exact ⟨i + 1, by go_num, by omega, HE2, bt HIB.out HBC.out⟩
                          case measure => simp [intOf]; omega
                    · obtain rfl : i = m1 := by omega
                      have g1 : decide (((i : Nat) : Int) < ((i : Nat) : Int)) = false := by simp
                      have HKE : Hid (canonL (plL ks) = canonL (plL us)) := Lib.hid (by
                        have := hE.out
                        rw [List.take_of_length_le (by rw [HM1.out]; exact Nat.le_refl _), List.take_of_length_le (by rw [HM2.out]; exact Nat.le_refl _)] at this
                        rw [noC_canon, noC_canon, this])
                      clear hE
                      go_wp2
                      go_ret
                      exact Tells.yes (HYES2.out HKE.out) (bt HBW2.out HIB.out)
                · have gm : ((m1 : Int) != (m2 : Int)) = true := by
                    rw [bne_iff_ne]
                    exact fun e => hm (by omega)
                  have HNE : Hid (¬ canonL (plL ks) = canonL (plL us)) := Lib.hid (fun h => hm (by
                    have := congrArg List.length h
                    rw [noC_canon, noC_canon, List.length_map, List.length_map, HM1.out, HM2.out] at this
                    exact this))
                  clear hm
                  go_wp2
                  go_ret
                  exact Tells.no (fun h => HNE.out (HNO2.out h)) HBW2.out
          · have gl : ((ps.length : Int) != (ps'.length : Int)) = true := by
              rw [bne_iff_ne]
              exact fun e => hpl (by omega)
            have HNE : Hid (¬ cntP ps = cntP ps') := Lib.hid (fun h => hpl (cnt_same.1 h).1)
            clear hpl
            go_wp2
            go_ret
            exact Tells.no (fun h => HNE.out (HCI.out.1 h).2.1) HB0.out
        · have hb : ((ba' n).toList == (ba' n').toList) = false := ba_ne hn
          have HE : Hid (¬ n = n') := Lib.hid hn
          clear hn
          go_wp2
          go_ret
          exact Tells.no (fun h => HE.out (HCI.out.1 h).1) HB0.out
      rw [if_neg k2] at HCI
      have g2 : (k == 2) = false := by simpa using k2
      have g2' : (k != 2) = true := by simpa using k2
      by_cases k3 : k = 3
      · subst k3
        rw [if_pos rfl] at HCI
        by_cases hn : n = n'
        · subst hn
          by_cases hv : v = v'
          · subst hv
            go_wp2
            go_ret
            exact Tells.yes (HCI.out.2 (by simp)) HB0.out
          · have hb : ((ba' v).toList == (ba' v').toList) = false := ba_ne hv
            have HE := Lib.hid hv
            clear hv
            go_wp2
            go_ret
            exact Tells.no (fun h => HE.out (HCI.out.1 h).2) HB0.out
        · have hb : ((ba' n).toList == (ba' n').toList) = false := ba_ne hn
          have HE := Lib.hid hn
          clear hn
          go_wp2
          go_ret
          exact Tells.no (fun h => HE.out (HCI.out.1 h).1) HB0.out
      rw [if_neg k3] at HCI
      have g3 : (k == 3) = false := by simpa using k3
      by_cases k45 : k = 4 ∨ k = 5
      · rw [if_pos k45] at HCI
        by_cases hv : v = v'
        · subst hv
          rcases k45 with rfl | rfl
          · go_wp2
            go_ret
            exact Tells.yes (HCI.out.2 (by simp)) HB0.out
          · go_wp2
            go_ret
            exact Tells.yes (HCI.out.2 (by simp)) HB0.out
        · have hb : ((ba' v).toList == (ba' v').toList) = false := ba_ne hv
          have HE := Lib.hid hv
          clear hv
          rcases k45 with rfl | rfl
          · go_wp2
            go_ret
            exact Tells.no (fun h => HE.out (HCI.out.1 h)) HB0.out
          · go_wp2
            go_ret
            exact Tells.no (fun h => HE.out (HCI.out.1 h)) HB0.out
      · rw [if_neg k45] at HCI
        have g4 : (k == 4) = false := by simpa using fun e => k45 (.inl e)
        have g5 : (k == 5) = false := by simpa using fun e => k45 (.inr e)
        clear k1 k2 k3 k45
        go_wp2
        go_ret
        exact Tells.yes (HCI.out.2 trivial) HB0.out
    · have g : (k != k') = true := by simpa using hk
      have HNK : Hid (¬ k = k') := Lib.hid hk
      clear hk
      go_wp2
      go_ret
      exact Tells.no (fun h => HNK.out (canon_kinds h)) HB0.out
end Go.Proofs.YtnkodafhjcjpjaaDoor
