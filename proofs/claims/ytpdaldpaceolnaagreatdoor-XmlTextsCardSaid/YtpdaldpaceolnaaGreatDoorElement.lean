/- Elements. No condition beyond what the theorems state. -/
import Derived.Test.YtpdaldpaceolnaaGreatDoorContent
namespace Go.Proofs.YtpdaldpaceolnaaGreatDoor
open Go.RowKit Go.Lib
set_option maxRecDepth 100000
set_option maxHeartbeats 8000000
theorem name_cat (n : List UInt8) : (⟨#[60, 47]⟩ : ByteArray) ++ ba' n = ba' (60 :: 47 :: n) := by
  apply ByteArray.ext
  unfold ba'
  apply Array.ext'
  simp
theorem RdP.to {P Q : Nat → Prop} {w w' : World} {size n : Nat} {A : Option Addr} {xs : List Value} (h : RdP P w size A n xs) (hq : ∀ b, P b → Q b) (hk : ∀ p : Addr, P p.block → w'.cell? p = w.cell? p) : RdP Q w' size A n xs := h.keep hq hk
theorem rd_own {w : World} {base : Nat} {e : TypeId} {size n c : Nat} {A : Option Addr} {xs : List Value} (h : w.ownsRow base e size (.slice A n c) n xs) : RdP (fun k => base ≤ k ∧ k < w.heap.size) w size A n xs := by
  obtain ⟨A', c', e, _, hrd⟩ := own_rd h
  cases e
  exact hrd.keep (fun b hb => own_lt h hb) (fun _ _ => rfl)
theorem set_other {w : World} {g o : Nat} {v : Value} {p : Addr} (hne : p.block ≠ g) : (w.setCell ⟨g, o, none⟩ v).cell? p = w.cell? p := World.cell?_setCell_other w _ p v (fun e => hne (by rw [← e]))
/-- What stands behind an element's content. -/
def closeK (n : List UInt8) (ps : List (List UInt8 × List UInt8)) : XR (List PT) → XR PT
  | .bad => .bad
  | .nest => .nest
  | .ok ks r5 => match stripX (60 :: 47 :: n) r5 with
    | none => .bad
    | some r6 => match stripX [62] (trimX r6) with
      | none => .bad
      | some r7 => .ok (.mk 2 n [] ps ks) r7
def put5 (w : World) (g : Nat) (a b c d e : Value) : World := ((((w.setCell ⟨g, 0, none⟩ a).setCell ⟨g, 1, none⟩ b).setCell ⟨g, 2, none⟩ c).setCell ⟨g, 3, none⟩ d).setCell ⟨g, 4, none⟩ e
theorem put5_below (w : World) (g : Nat) (a b c d e : Value) : Below g w (put5 w g a b c d e) :=
  (((((Below.refl _ _).setCell (p := ⟨g, 0, none⟩) (Nat.le_refl _) _).setCell (p := ⟨g, 1, none⟩) (Nat.le_refl _) _).setCell (p := ⟨g, 2, none⟩) (Nat.le_refl _) _).setCell (p := ⟨g, 3, none⟩) (Nat.le_refl _) _).setCell (p := ⟨g, 4, none⟩) (Nat.le_refl _) _
theorem put5_cell (w : World) (g : Nat) (a b c d e : Value) (p : Addr) (h : p.block ≠ g) : (put5 w g a b c d e).cell? p = w.cell? p := by
  unfold put5
  rw [set_other h, set_other h, set_other h, set_other h, set_other h]
theorem put5_size (w : World) (g : Nat) (a b c d e : Value) : (put5 w g a b c d e).heap.size = w.heap.size := by
  unfold put5
  simp
theorem element_go (b f : Nat) (HEl : ∀ f', f' < f → ElR b f') : ElR b (f + 1) := by
  intro o l w h hl hv hE hb5 ho hf
  obtain ⟨R, hR⟩ : ∃ R, elemGo (f + 1) o l = R := ⟨_, rfl⟩
  rw [hR]
  unfold elemGo at hR
  have HE := Lib.hid hE
  have HR := Lib.hid hR
  have HEL := Lib.hid HEl
  have HV := Lib.hid hv
  have hz := h.2.2
  have HAT : Hid (At (w.alloc (.cells #[.int .i64 0, .string ⟨#[]⟩, .string ⟨#[]⟩, .slice none 0 0, .slice none 0 0] 27)) b l) := Lib.hid (h.below (ba (Below.refl _ _)))
  have HM0 : Hid (Mv b l w (w.alloc (.cells #[.int .i64 0, .string ⟨#[]⟩, .string ⟨#[]⟩, .slice none 0 0, .slice none 0 0] 27))) := Lib.hid ((Mv.refl h).below (ba (Below.refl _ _)))
  have HND : Hid (∀ (l p : List UInt8) (q : ByteArray) (W : World), q = ba' p → At W b l → Calls Tryz.prog 49 #[.pointer (some ⟨b, 0, none⟩), .string q] W (NdPost b p l W)) := Lib.hid fun l p q W hq hW => by rw [hq]; exact need_any b l p W hW
  obtain ⟨W1, hW1⟩ : ∃ W1, w.alloc (.cells #[.int .i64 0, .string ⟨#[]⟩, .string ⟨#[]⟩, .slice none 0 0, .slice none 0 0] 27) = W1 := ⟨_, rfl⟩
  have a0 : W1.cell? ⟨w.heap.size, 0, none⟩ = some (.int .i64 0) := by rw [← hW1]; simp
  have a1 : W1.cell? ⟨w.heap.size, 1, none⟩ = some (.string ⟨#[]⟩) := by rw [← hW1]; simp
  have a2 : W1.cell? ⟨w.heap.size, 2, none⟩ = some (.string ⟨#[]⟩) := by rw [← hW1]; simp
  have a3 : W1.cell? ⟨w.heap.size, 3, none⟩ = some (.slice none 0 0) := by rw [← hW1]; simp
  have a4 : W1.cell? ⟨w.heap.size, 4, none⟩ = some (.slice none 0 0) := by rw [← hW1]; simp
  have af : ∀ o, W1.frozen? ⟨w.heap.size, o, none⟩ = false := by intro o; rw [← hW1]; simp
  have az : W1.heap.size = w.heap.size + 1 := by rw [← hW1]; simp
  rw [hW1] at HAT HM0
  have HZ : Hid (∀ W x, Mv b x W1 W → W.cell? ⟨w.heap.size, 0, none⟩ = some (.int .i64 0) ∧ W.cell? ⟨w.heap.size, 1, none⟩ = some (.string ⟨#[]⟩) ∧ W.cell? ⟨w.heap.size, 2, none⟩ = some (.string ⟨#[]⟩) ∧ W.cell? ⟨w.heap.size, 3, none⟩ = some (.slice none 0 0) ∧ W.cell? ⟨w.heap.size, 4, none⟩ = some (.slice none 0 0) ∧ (∀ o, W.frozen? ⟨w.heap.size, o, none⟩ = false) ∧ w.heap.size < W.heap.size) := Lib.hid fun W x hm =>
    ⟨(hm.cell (by simp only; omega) (by simp only; omega)).trans a0, (hm.cell (by simp only; omega) (by simp only; omega)).trans a1, (hm.cell (by simp only; omega) (by simp only; omega)).trans a2, (hm.cell (by simp only; omega) (by simp only; omega)).trans a3, (hm.cell (by simp only; omega) (by simp only; omega)).trans a4, fun o => (hm.frozen (by simp only; omega) (by simp only; omega)).trans (af o), by have := hm.grow; omega⟩
  have HW1 := Lib.hid hW1
  have HMW := Lib.hid (Mv.refl HAT.out)
  clear h hE hR hv HEl a0 a1 a2 a3 a4 af hW1
  go_enter Tryz.func31, Tryz.ntmps31
  go_wp2_with fail
  refine (HND.out l [60] _ _ rfl (by rw [HW1.out]; exact HAT.out)).mono ?_
  intro e w2 ht
  unfold NdPost at ht
  rw [HW1.out] at ht
  cases hsq : stripX [60] l with
  | none =>
    rw [hsq] at ht
    obtain ⟨rfl, hm⟩ := ht
    have HN : Hid (R = .bad) := Lib.hid (by have h := HR.out; rw [hsq] at h; exact h.symm)
    have HM2 := Lib.hid (HM0.out.trans hm)
    clear hm HR hsq
    go_wp2
    rw [HN.out]
    exact ⟨rfl, rfl, _, HM2.out⟩
  | some r =>
    rw [hsq] at ht
    obtain ⟨rfl, hm⟩ := ht
    obtain ⟨hvr, hlr⟩ := strip_valid (by decide) HV.out hsq
    simp only [List.length_cons, List.length_nil] at hlr
    have hst := HR.out
    rw [hsq] at hst
    simp only at hst
    have HST := Lib.hid hst
    have HVR := Lib.hid hvr
    have HM2 := Lib.hid (HM0.out.trans hm)
    have HK2 := Lib.hid (HMW.out.trans hm)
    have HNM := Lib.hid (rname_any b r w2 hm.here (by omega) (HE.out.mv HM2.out hb5).1 (by omega))
    clear hm hst hsq HR HM0 HMW HAT hvr
    go_wp2_with fail
    refine HNM.out.mono ?_
    intro e w3 hrf
    unfold NmPost at hrf
    cases hcf : nameL r with
    | none =>
      rw [hcf] at hrf
      obtain ⟨rfl, l', hm⟩ := hrf
      have HN : Hid (R = .bad) := Lib.hid (by have h := HST.out; rw [hcf] at h; exact h.symm)
      have HM3 := Lib.hid (HM2.out.trans hm)
      clear hm HST hcf
      go_wp2
      rw [HN.out]
      exact ⟨rfl, rfl, _, HM3.out⟩
    | some x =>
      obtain ⟨n, r1⟩ := x
      rw [hcf] at hrf
      obtain ⟨rfl, hm⟩ := hrf
      have hst := HST.out
      rw [hcf] at hst
      simp only at hst
      obtain ⟨b1, b2, b3, b4⟩ := name_valid HVR.out hcf
      have HNX := Lib.hid b4
      have HV1 := Lib.hid b1
      have HM3 := Lib.hid (HM2.out.trans hm)
      have HK3 := Lib.hid (HK2.out.trans hm)
      have HST2 := Lib.hid hst
      clear hm hst HST hcf HM2 HK2 HNM b1 b4
      by_cases hno : 62 < o
      · have g1 : decide ((62 : Int) < (o : Int)) = true := by simp; omega
        have g1' : decide (62 < o) = true := by simpa using hno
        have HN : Hid (R = .nest) := Lib.hid (by have h := HST2.out; rw [if_pos hno] at h; exact h.symm)
        clear HST2
        go_wp2
        rw [HN.out]
        exact ⟨rfl, rfl, _, HM3.out⟩
      · have g1 : decide ((62 : Int) < (o : Int)) = false := by simp; omega
        have g1' : decide (62 < o) = false := by simpa using hno
        have hst := HST2.out
        rw [if_neg hno] at hst
        obtain ⟨TA, hTA⟩ : ∃ TA, attrsGo (r1.length + 1) r1 [] = TA := ⟨_, rfl⟩
        have HAR := Lib.hid (attrs_any b r1 w3 HM3.out.here (by omega) HV1.out (HE.out.mv HM3.out hb5) hb5 TA hTA)
        rw [hTA] at hst
        have HST3 := Lib.hid hst
        have HTA := Lib.hid hTA
        have z3 := HM3.out.grow
        have zz3 := HK3.out.grow
        clear hst HST2 hTA
        go_wp2_with fail
        refine HAR.out.mono ?_
        intro e w4 htx
        unfold AtPost at htx
        cases TA with
        | none =>
          obtain ⟨rfl, l', hm⟩ := htx
          have HN : Hid (R = .bad) := Lib.hid HST3.out.symm
          have HM4 := Lib.hid (HM3.out.trans hm)
          clear hm HST3
          go_wp2
          rw [HN.out]
          exact ⟨rfl, rfl, _, HM4.out⟩
        | some x =>
          obtain ⟨ps, r2⟩ := x
          obtain ⟨⟨AA, ca, rfl, hoa⟩, hm⟩ := htx
          obtain ⟨c1, c2⟩ := attrsGo_valid _ _ _ _ _ HV1.out HTA.out
          have HV2 := Lib.hid c1
          have hst := HST3.out
          simp only at hst
          have HST4 := Lib.hid hst
          have HM4 := Lib.hid (HM3.out.trans hm)
          have HK4 := Lib.hid (HK3.out.trans hm)
          have HRA : Hid (RdP (fun k => w.heap.size < k ∧ k < w4.heap.size) w4 2 AA ps.length (rowP ps)) := Lib.hid ((rd_own hoa).keep (fun k hk => ⟨by have := hk.1; omega, hk.2⟩) (fun _ _ => rfl))
          have z4 : w.heap.size < w4.heap.size := by have := HK4.out.grow; omega
          clear hm hst hoa HST3 HTA HAR HM3 HK3 c1
          obtain ⟨na, hna⟩ : ∃ na, ps.length = na := ⟨_, rfl⟩
          rw [hna] at HRA ⊢
          have HNA := Lib.hid hna
          clear hna
          obtain ⟨W5, hW5⟩ : ∃ W5, w4.alloc (.cells #[.int .i64 2, .string (ba' n), .string ⟨#[]⟩, .slice AA na ca, .slice none 0 0] 27) = W5 := ⟨_, rfl⟩
          have a0 : W5.cell? ⟨w4.heap.size, 0, none⟩ = some (.int .i64 2) := by rw [← hW5]; simp
          have a1 : W5.cell? ⟨w4.heap.size, 1, none⟩ = some (.string (ba' n)) := by rw [← hW5]; simp
          have a2 : W5.cell? ⟨w4.heap.size, 2, none⟩ = some (.string ⟨#[]⟩) := by rw [← hW5]; simp
          have a3 : W5.cell? ⟨w4.heap.size, 3, none⟩ = some (.slice AA na ca) := by rw [← hW5]; simp
          have a4 : W5.cell? ⟨w4.heap.size, 4, none⟩ = some (.slice none 0 0) := by rw [← hW5]; simp
          have af : ∀ o, W5.frozen? ⟨w4.heap.size, o, none⟩ = false := by intro o; rw [← hW5]; simp
          have az5 : W5.heap.size = w4.heap.size + 1 := by rw [← hW5]; simp
          have h45 : Below w4.heap.size w4 W5 := by rw [← hW5]; exact ba (Below.refl _ _)
          have HM5 : Hid (Mv b r2 w W5) := Lib.hid (HM4.out.below h45)
          have HK5 : Hid (Mv b r2 W1 W5) := Lib.hid (HK4.out.below h45)
          have HRA5 : Hid (RdP (fun k => w.heap.size < k ∧ k < w4.heap.size) W5 2 AA na (rowP ps)) := Lib.hid (HRA.out.keep (fun _ h => h) (fun p hp => h45.cell hp.2))
          have HMW := Lib.hid (Mv.refl HM5.out.here)
          have hb4 : b < w4.heap.size := by omega
          have HG : Hid (∀ W x, Mv b x W5 W → W.cell? ⟨w4.heap.size, 0, none⟩ = some (.int .i64 2) ∧ W.cell? ⟨w4.heap.size, 1, none⟩ = some (.string (ba' n)) ∧ W.cell? ⟨w4.heap.size, 2, none⟩ = some (.string ⟨#[]⟩) ∧ W.cell? ⟨w4.heap.size, 3, none⟩ = some (.slice AA na ca) ∧ W.cell? ⟨w4.heap.size, 4, none⟩ = some (.slice none 0 0) ∧ (∀ o, W.frozen? ⟨w4.heap.size, o, none⟩ = false) ∧ w4.heap.size < W.heap.size) := Lib.hid fun W x hm =>
            ⟨(hm.cell (by simp only; omega) (by simp only; omega)).trans a0, (hm.cell (by simp only; omega) (by simp only; omega)).trans a1, (hm.cell (by simp only; omega) (by simp only; omega)).trans a2, (hm.cell (by simp only; omega) (by simp only; omega)).trans a3, (hm.cell (by simp only; omega) (by simp only; omega)).trans a4, fun o => (hm.frozen (by simp only; omega) (by simp only; omega)).trans (af o), by have := hm.grow; omega⟩
          have HW5 := Lib.hid hW5
          clear a0 a1 a2 a3 a4 af hW5 h45 HRA HM4 HK4
          go_wp2_with fail
          refine (take_any b r2 [47, 62] _ (by rw [HW5.out]; exact HM5.out.here)).mono ?_
          intro e w6 ht
          unfold TkPost at ht
          rw [HW5.out] at ht
          cases hs2 : stripX [47, 62] r2 with
          | some r3 =>
            rw [hs2] at ht
            obtain ⟨rfl, hm⟩ := ht
            have HN : Hid (R = .ok (.mk 2 n [] ps []) r3) := Lib.hid (by have h := HST4.out; rw [hs2] at h; exact h.symm)
            have HM6 := Lib.hid (HM5.out.trans hm)
            obtain ⟨p0, p1, p2, p3, p4, pf, pz⟩ := HZ.out _ _ (HK5.out.trans hm)
            obtain ⟨q0, q1, q2, q3, q4, qf, qz⟩ := HG.out _ _ (HMW.out.trans hm)
            have pf0 := pf 0
            have pf1 := pf 1
            have pf2 := pf 2
            have pf3 := pf 3
            have pf4 := pf 4
            have HRA6 : Hid (RdP (fun k => w.heap.size < k ∧ k < w6.heap.size) w6 2 AA na (rowP ps)) := Lib.hid (HRA5.out.keep (fun k hk => ⟨hk.1, by omega⟩) (fun p hp => hm.cell (by have := hp.2; omega) (by have := hp.1; omega)))
            clear hm HST4 hs2 pf qf HZ HG HEL
            go_wp2
            obtain ⟨W9, hW9⟩ : ∃ W9, put5 w6 w.heap.size (.int .i64 2) (.string (ba' n)) (.string ⟨#[]⟩) (.slice AA na ca) (.slice none 0 0) = W9 := ⟨_, rfl⟩
            refine bodyPost_ret (v := .agg #[.int .i64 2, .string (ba' n), .string ⟨#[]⟩, .slice AA na ca, .slice none 0 0]) (by simp [results, Tryz.results31, go_sem, *]) rfl ?_
            have hW9' := hW9
            unfold put5 at hW9'
            rw [hW9', HN.out]
            refine ⟨⟨.mk 2 n [] AA ca ps none 0 [], (by show _ = Ending.returned (.agg #[.int .i64 2, .string (ba' n), .string (ba' []), .slice AA ps.length ca, .slice none 0 0]); rw [HNA.out]; rfl), rfl, ?_, ?_⟩, ?_⟩
            · rw [Tr.In, HNA.out]
              refine ⟨HRA6.out.keep (fun k hk => ⟨Nat.le_of_lt hk.1, by rw [← hW9, put5_size]; exact hk.2⟩) (fun p hp => by rw [← hW9]; exact put5_cell _ _ _ _ _ _ _ p (by have := hp.1; omega)), ⟨rfl, fun h => absurd h (by simp)⟩, trivial⟩
            · rw [Tr.Caps]
              simp [CapsL, maxLen]
            · refine HM6.out.high (B := w.heap.size) ?_ (Nat.le_refl _) hz
              rw [← hW9]
              exact put5_below _ _ _ _ _ _ _
          | none =>
            rw [hs2] at ht
            obtain ⟨rfl, hm⟩ := ht
            have hst := HST4.out
            rw [hs2] at hst
            simp only at hst
            have HST5 := Lib.hid hst
            have HM6 := Lib.hid (HM5.out.trans hm)
            have HK6 := Lib.hid (HK5.out.trans hm)
            have HG6 := Lib.hid (HMW.out.trans hm)
            clear hm hst HST4 hs2 HM5 HK5 HMW
            go_wp2_with fail
            refine (HND.out r2 [62] _ _ rfl HM6.out.here).mono ?_
            intro e w7 ht
            unfold NdPost at ht
            cases hs3 : stripX [62] r2 with
            | none =>
              rw [hs3] at ht
              obtain ⟨rfl, hm⟩ := ht
              have HN : Hid (R = .bad) := Lib.hid (by have h := HST5.out; rw [hs3] at h; exact h.symm)
              have HM7 := Lib.hid (HM6.out.trans hm)
              clear hm HST5 hs3
              go_wp2
              rw [HN.out]
              exact ⟨rfl, rfl, _, HM7.out⟩
            | some r3 =>
              rw [hs3] at ht
              obtain ⟨rfl, hm⟩ := ht
              obtain ⟨d1, d2⟩ := strip_valid (by decide) HV2.out hs3
              simp only [List.length_cons, List.length_nil] at d2
              have hst := HST5.out
              rw [hs3] at hst
              simp only at hst
              have HM7 := Lib.hid (HM6.out.trans hm)
              have HK7 := Lib.hid (HK6.out.trans hm)
              have HG7 := Lib.hid (HG6.out.trans hm)
              obtain ⟨T2, hT2⟩ : ∃ T2, textGo (r3.length + 1) r3 [] = T2 := ⟨_, rfl⟩
              have HTL : Hid (textL r3 = T2.map fun x => (textK x.1, x.2)) := Lib.hid (by unfold textL; rw [hT2])
              obtain ⟨R2, hR2⟩ : ∃ R2, kidsK f (o + 1) T2 = R2 := ⟨_, rfl⟩
              have ho1 : o + 1 ≤ 63 := by omega
              have hr3 : r3.length + 3 ≤ l.length := by omega
              have HCO := Lib.hid (content_go b f HEL.out (o + 1) ho1 r3 w7 HM7.out.here (by omega) d1 (HE.out.mv HM7.out hb5) hb5 (by omega) T2 hT2 R2 hR2)
              have HSTK : Hid (closeK n ps R2 = R) := Lib.hid (by
                rw [HTL.out] at hst
                rw [← hR2]
                cases T2 with
                | none => exact hst
                | some x =>
                  obtain ⟨xa, xr⟩ := x
                  simp only [Option.map] at hst
                  show closeK n ps (kidsGo f (o + 1) xr (textK xa)) = R
                  cases hk : kidsGo f (o + 1) xr (textK xa) with
                  | bad => rw [hk] at hst; exact hst
                  | nest => rw [hk] at hst; exact hst
                  | ok ks r5 => rw [hk] at hst; exact hst)
              obtain ⟨o1, ho1e⟩ : ∃ o1 : Int, ((o + 1 : Nat) : Int) = o1 := ⟨_, rfl⟩
              rw [ho1e] at HCO
              have gw1 : IntKind.wrap .i64 ((o : Int) + 1) = o1 := by rw [IntKind.wrap_i64]; omega
              clear ho1e
              have HV3 := Lib.hid d1
              have z7 : w4.heap.size < w7.heap.size := by have := HG7.out.grow; omega
              have HD : Hid (∀ ks r5, R2 = .ok ks r5 → validX r5 = true) := Lib.hid (by
                intro ks r5 hk
                rw [← hR2] at hk
                cases T2 with
                | none => cases hk
                | some x =>
                  obtain ⟨a, ra⟩ := x
                  obtain ⟨v1, _⟩ := textGo_valid _ _ _ _ _ d1 hT2
                  exact ((ek_valid f).2 _ _ _ _ _ v1 hk).1)
              clear hm hst HST5 hs3 HM6 HK6 HG6 hT2 hR2 HTL d1
              go_wp2_with fail
              refine HCO.out.mono ?_
              intro e w8 hrf
              unfold KiPost at hrf
              cases R2 with
              | bad =>
                obtain ⟨rfl, l', hm⟩ := hrf
                have HN : Hid (R = .bad) := Lib.hid HSTK.out.symm
                have HM8 := Lib.hid (HM7.out.trans hm)
                clear hm HSTK
                go_wp2
                rw [HN.out]
                exact ⟨rfl, rfl, _, HM8.out⟩
              | nest =>
                obtain ⟨rfl, l', hm⟩ := hrf
                have HN : Hid (R = .nest) := Lib.hid HSTK.out.symm
                have HM8 := Lib.hid (HM7.out.trans hm)
                clear hm HSTK
                go_wp2
                rw [HN.out]
                exact ⟨rfl, rfl, _, HM8.out⟩
              | ok ks r5 =>
                obtain ⟨⟨L, AK, ck, hpl, rfl, hok, hik, hck⟩, hm⟩ := hrf
                have hst := HSTK.out
                have HST6 := Lib.hid hst
                have HV5 := Lib.hid (HD.out _ _ rfl)
                have HM8 := Lib.hid (HM7.out.trans hm)
                have HCAP := Lib.hid (own_cap hok)
                have HCK := Lib.hid hck
                have HPL := Lib.hid hpl
                have HRK : Hid (RdP (fun k => w4.heap.size < k ∧ k < w8.heap.size) w8 5 AK L.length (rowT L)) := Lib.hid ((rd_own hok).keep (fun k hk => ⟨by have := hk.1; omega, hk.2⟩) (fun _ _ => rfl))
                have HIK : Hid (InL (fun k => w4.heap.size < k ∧ k < w8.heap.size) w8 L) := Lib.hid (inL_iff.2 fun t ht => (inL_iff.1 hik t ht).keep (fun k hk => ⟨by have := hk.1; omega, hk.2.1⟩) (fun _ _ => rfl))
                have HRA8 : Hid (RdP (fun k => w.heap.size < k ∧ k < w4.heap.size) w8 2 AA na (rowP ps)) := Lib.hid (HRA5.out.keep (fun _ h => h) (fun p hp => (HG7.out.trans hm).cell (by have := hp.2; omega) (by have := hp.1; omega)))
                obtain ⟨p0, p1, p2, p3, p4, pf, pz⟩ := HZ.out _ _ (HK7.out.trans hm)
                obtain ⟨q0, q1, q2, q3, q4, qf, qz⟩ := HG.out _ _ (HG7.out.trans hm)
                have qf4 := qf 4
                obtain ⟨nk, hnk⟩ : ∃ nk, L.length = nk := ⟨_, rfl⟩
                rw [hnk] at HRK HCAP ⊢
                have HNK := Lib.hid hnk
                obtain ⟨W9, hW9⟩ : ∃ W9, w8.setCell ⟨w4.heap.size, 4, none⟩ (.slice AK nk ck) = W9 := ⟨_, rfl⟩
                have h89 : Below w4.heap.size w8 W9 := by rw [← hW9]; exact (Below.refl _ _).setCell (p := ⟨w4.heap.size, 4, none⟩) (Nat.le_refl _) _
                have hc9 : ∀ p : Addr, p.block ≠ w4.heap.size → W9.cell? p = w8.cell? p := fun p hp => by rw [← hW9]; exact set_other hp
                have hz9 : W9.heap.size = w8.heap.size := by rw [← hW9]; simp
                have HM9 : Hid (Mv b r5 w W9) := Lib.hid (HM8.out.high h89 (Nat.le_of_lt z4) hb4)
                have HMM := Lib.hid (Mv.refl HM9.out.here)
                have k0 : W9.cell? ⟨w4.heap.size, 0, none⟩ = some (.int .i64 2) := by rw [← hW9]; exact (World.cell?_setCell_other _ _ _ _ (fun e => by simp at e)).trans q0
                have k1 : W9.cell? ⟨w4.heap.size, 1, none⟩ = some (.string (ba' n)) := by rw [← hW9]; exact (World.cell?_setCell_other _ _ _ _ (fun e => by simp at e)).trans q1
                have k2 : W9.cell? ⟨w4.heap.size, 2, none⟩ = some (.string ⟨#[]⟩) := by rw [← hW9]; exact (World.cell?_setCell_other _ _ _ _ (fun e => by simp at e)).trans q2
                have k3 : W9.cell? ⟨w4.heap.size, 3, none⟩ = some (.slice AA na ca) := by rw [← hW9]; exact (World.cell?_setCell_other _ _ _ _ (fun e => by simp at e)).trans q3
                have k4 : W9.cell? ⟨w4.heap.size, 4, none⟩ = some (.slice AK nk ck) := by rw [← hW9]; first | exact World.cell?_setCell_same _ _ _ q4 | exact World.cell?_setCell_same q4
                have j0 := (hc9 ⟨w.heap.size, 0, none⟩ (by simp only; omega)).trans p0
                have j1 := (hc9 ⟨w.heap.size, 1, none⟩ (by simp only; omega)).trans p1
                have j2 := (hc9 ⟨w.heap.size, 2, none⟩ (by simp only; omega)).trans p2
                have j3 := (hc9 ⟨w.heap.size, 3, none⟩ (by simp only; omega)).trans p3
                have j4 := (hc9 ⟨w.heap.size, 4, none⟩ (by simp only; omega)).trans p4
                have jf : ∀ o, W9.frozen? ⟨w.heap.size, o, none⟩ = false := fun o => by
                  rw [← hW9, World.frozen?_setCell]
                  exact pf o
                have HRK9 : Hid (RdP (fun k => w4.heap.size < k ∧ k < w8.heap.size) W9 5 AK nk (rowT L)) := Lib.hid (HRK.out.keep (fun _ h => h) (fun p hp => hc9 p (by have := hp.1; omega)))
                have HIK9 : Hid (InL (fun k => w4.heap.size < k ∧ k < w8.heap.size) W9 L) := Lib.hid (inL_iff.2 fun t ht => (inL_iff.1 HIK.out t ht).keep (fun _ h => h) (fun p hp => hc9 p (by have := hp.1; omega)))
                have HRA9 : Hid (RdP (fun k => w.heap.size < k ∧ k < w4.heap.size) W9 2 AA na (rowP ps)) := Lib.hid (HRA8.out.keep (fun _ h => h) (fun p hp => hc9 p (by have := hp.2; omega)))
                have HF9 : Hid (∀ W x, Mv b x W9 W → (W.cell? ⟨w4.heap.size, 0, none⟩ = some (.int .i64 2) ∧ W.cell? ⟨w4.heap.size, 1, none⟩ = some (.string (ba' n)) ∧ W.cell? ⟨w4.heap.size, 2, none⟩ = some (.string ⟨#[]⟩) ∧ W.cell? ⟨w4.heap.size, 3, none⟩ = some (.slice AA na ca) ∧ W.cell? ⟨w4.heap.size, 4, none⟩ = some (.slice AK nk ck)) ∧ (W.cell? ⟨w.heap.size, 0, none⟩ = some (.int .i64 0) ∧ W.cell? ⟨w.heap.size, 1, none⟩ = some (.string ⟨#[]⟩) ∧ W.cell? ⟨w.heap.size, 2, none⟩ = some (.string ⟨#[]⟩) ∧ W.cell? ⟨w.heap.size, 3, none⟩ = some (.slice none 0 0) ∧ W.cell? ⟨w.heap.size, 4, none⟩ = some (.slice none 0 0)) ∧ (∀ o, W.frozen? ⟨w.heap.size, o, none⟩ = false) ∧ w8.heap.size ≤ W.heap.size) := Lib.hid fun W x hm => by
                  have hq : ∀ o, W.cell? ⟨w4.heap.size, o, none⟩ = W9.cell? ⟨w4.heap.size, o, none⟩ := fun o => hm.cell (by simp only; omega) (by simp only; omega)
                  have hp : ∀ o, W.cell? ⟨w.heap.size, o, none⟩ = W9.cell? ⟨w.heap.size, o, none⟩ := fun o => hm.cell (by simp only; omega) (by simp only; omega)
                  refine ⟨⟨(hq 0).trans k0, (hq 1).trans k1, (hq 2).trans k2, (hq 3).trans k3, (hq 4).trans k4⟩, ⟨(hp 0).trans j0, (hp 1).trans j1, (hp 2).trans j2, (hp 3).trans j3, (hp 4).trans j4⟩, fun o => (hm.frozen (by simp only; omega) (by simp only; omega)).trans (jf o), by have := hm.grow; omega⟩
                have HW9 := Lib.hid hW9
                have hzn : (ba' n).size ≤ 100000 := by rw [size_ba]; omega
                have hzf : ¬ 9223372036854775807 < 2 + (ba' n).size := by omega
                have hcat := name_cat n
                have HCT := Lib.hid hcat
                clear hm hst hok hik hck hpl hnk HSTK HCO HRK HIK HRA8 HRA5 pf qf p0 p1 p2 p3 p4 k0 k1 k2 k3 k4 j0 j1 j2 j3 j4 jf hc9 h89 hW9 hcat
                go_wp2_with fail
                refine (HND.out r5 (60 :: 47 :: n) _ _ (by first | exact HCT.out | rfl | simp) (by rw [HW9.out]; exact HM9.out.here)).mono ?_
                intro e w10 ht
                unfold NdPost at ht
                rw [HW9.out] at ht
                cases hs4 : stripX (60 :: 47 :: n) r5 with
                | none =>
                  rw [hs4] at ht
                  obtain ⟨rfl, hm⟩ := ht
                  have HN : Hid (R = .bad) := Lib.hid (by have h := HST6.out; unfold closeK at h; simp only [hs4] at h; exact h.symm)
                  have HM10 := Lib.hid (HM9.out.trans hm)
                  clear hm HST6 hs4
                  go_wp2
                  rw [HN.out]
                  exact ⟨rfl, rfl, _, HM10.out⟩
                | some r6 =>
                  rw [hs4] at ht
                  obtain ⟨rfl, hm⟩ := ht
                  have hst := HST6.out
                  unfold closeK at hst
                  simp only [hs4] at hst
                  have HST7 := Lib.hid hst
                  have HM10 := Lib.hid (HM9.out.trans hm)
                  have HX10 := Lib.hid (HMM.out.trans hm)
                  clear hm hst HST6 hs4
                  go_wp2_with fail
                  refine (spaces_any b r6 _ HM10.out.here).mono ?_
                  rintro e w11 ⟨rfl, hm⟩
                  have HM11 := Lib.hid (HM10.out.trans hm)
                  have HX11 := Lib.hid (HX10.out.trans hm)
                  clear hm
                  go_wp2_with fail
                  refine (HND.out (trimX r6) [62] _ _ rfl HM11.out.here).mono ?_
                  intro e w12 ht
                  unfold NdPost at ht
                  cases hs5 : stripX [62] (trimX r6) with
                  | none =>
                    rw [hs5] at ht
                    obtain ⟨rfl, hm⟩ := ht
                    have HN : Hid (R = .bad) := Lib.hid (by have h := HST7.out; simp only [hs5] at h; exact h.symm)
                    have HM12 := Lib.hid (HM11.out.trans hm)
                    clear hm HST7 hs5
                    go_wp2
                    rw [HN.out]
                    exact ⟨rfl, rfl, _, HM12.out⟩
                  | some r7 =>
                    rw [hs5] at ht
                    obtain ⟨rfl, hm⟩ := ht
                    have HN : Hid (R = .ok (.mk 2 n [] ps ks) r7) := Lib.hid (by have h := HST7.out; simp only [hs5] at h; exact h.symm)
                    have HM12 := Lib.hid (HM11.out.trans hm)
                    have hx := HX11.out.trans hm
                    obtain ⟨⟨q0, q1, q2, q3, q4⟩, ⟨p0, p1, p2, p3, p4⟩, pf, wz⟩ := HF9.out _ _ hx
                    have pz : w.heap.size < w12.heap.size := by omega
                    have qz : w4.heap.size < w12.heap.size := by omega
                    have pf0 := pf 0
                    have pf1 := pf 1
                    have pf2 := pf 2
                    have pf3 := pf 3
                    have pf4 := pf 4
                    have HRK12 : Hid (RdP (fun k => w.heap.size < k ∧ k < w12.heap.size) w12 5 AK nk (rowT L)) := Lib.hid (HRK9.out.keep (fun k hk => ⟨by have := hk.1; omega, by have := hk.2; omega⟩) (fun p hp => hx.cell (by have := hp.2; omega) (by have := hp.1; omega)))
                    have HIK12 : Hid (InL (fun k => w.heap.size < k ∧ k < w12.heap.size) w12 L) := Lib.hid (inL_iff.2 fun t ht => (inL_iff.1 HIK9.out t ht).keep (fun k hk => ⟨by have := hk.1; omega, by have := hk.2; omega⟩) (fun p hp => hx.cell (by have := hp.2; omega) (by have := hp.1; omega)))
                    have HRA12 : Hid (RdP (fun k => w.heap.size < k ∧ k < w12.heap.size) w12 2 AA na (rowP ps)) := Lib.hid (HRA9.out.keep (fun k hk => ⟨hk.1, by have := hk.2; omega⟩) (fun p hp => hx.cell (by have := hp.2; omega) (by have := hp.1; omega)))
                    clear hm hx HST7 hs5 pf HZ HG HEL HF9 HX11 HX10 HMM
                    go_wp2
                    obtain ⟨W13, hW13⟩ : ∃ W13, put5 w12 w.heap.size (.int .i64 2) (.string (ba' n)) (.string ⟨#[]⟩) (.slice AA na ca) (.slice AK nk ck) = W13 := ⟨_, rfl⟩
                    refine bodyPost_ret (v := .agg #[.int .i64 2, .string (ba' n), .string ⟨#[]⟩, .slice AA na ca, .slice AK nk ck]) (by simp [results, Tryz.results31, go_sem, *]) rfl ?_
                    have hW13' := hW13
                    unfold put5 at hW13'
                    rw [hW13', HN.out]
                    have hpc : ∀ p : Addr, w.heap.size < p.block → W13.cell? p = w12.cell? p := fun p hp => by rw [← hW13]; exact put5_cell _ _ _ _ _ _ _ p (by omega)
                    have hpz : W13.heap.size = w12.heap.size := by rw [← hW13, put5_size]
                    refine ⟨⟨.mk 2 n [] AA ca ps AK ck L, (by show _ = Ending.returned (.agg #[.int .i64 2, .string (ba' n), .string (ba' []), .slice AA ps.length ca, .slice AK L.length ck]); rw [HNA.out, HNK.out]; rfl), by rw [Tr.pl, HPL.out], ?_, ?_⟩, ?_⟩
                    · rw [Tr.In, HNA.out, HNK.out]
                      refine ⟨HRA12.out.keep (fun k hk => ⟨Nat.le_of_lt hk.1, by rw [hpz]; exact hk.2⟩) (fun p hp => hpc p hp.1), HRK12.out.keep (fun k hk => ⟨Nat.le_of_lt hk.1, by rw [hpz]; exact hk.2⟩) (fun p hp => hpc p hp.1), inL_iff.2 fun t ht => (inL_iff.1 HIK12.out t ht).keep (fun k hk => ⟨Nat.le_of_lt hk.1, by rw [hpz]; exact hk.2⟩) (fun p hp => hpc p hp.1)⟩
                    · rw [Tr.Caps, HNK.out]
                      exact ⟨HCAP.out.1, HCAP.out.2, HCK.out⟩
                    · refine HM12.out.high (B := w.heap.size) ?_ (Nat.le_refl _) hz
                      rw [← hW13]
                      exact put5_below _ _ _ _ _ _ _
theorem element_any (b : Nat) : ∀ f, ElR b f := by
  intro f
  induction f using Nat.strongRecOn with
  | ind f ih =>
    cases f with
    | zero => intro o l w _ _ _ _ _ _ hf; omega
    | succ f => exact element_go b f fun f' h => ih f' (by omega)
end Go.Proofs.YtpdaldpaceolnaaGreatDoor
