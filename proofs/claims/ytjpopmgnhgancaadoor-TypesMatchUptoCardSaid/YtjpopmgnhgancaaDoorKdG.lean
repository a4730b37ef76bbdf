/- Trees, items and the kinds of both: part 7. No condition beyond what the theorems state. -/
import Derived.Test.YtjpopmgnhgancaaDoorKdE
import Derived.Test.YtjpopmgnhgancaaDoorKdF
import Derived.Test.YtjpopmgnhgancaaDoorKdD
import Derived.Test.YtjpopmgnhgancaaDoorKdB
namespace Go.Proofs.YtjpopmgnhgancaaDoor
open Go.RowKit Go.Lib
set_option maxRecDepth 100000
set_option maxHeartbeats 4000000
theorem plL_nil {ks : List Tr} (h : ks = []) : (plL ks).isEmpty = true := by subst h; rfl
theorem plL_cons {ks : List Tr} (h : ks ≠ []) : (plL ks).isEmpty = false := by
  cases ks with
  | nil => exact absurd rfl h
  | cons a l => rfl
theorem len_pos {α : Type} {l : List α} (h : l ≠ []) : 0 < l.length := List.length_pos_iff.2 h
theorem vnil {v : List UInt8} (h : v = []) : validX v = true := by subst h; rfl
theorem refRight_any : ∀ t : Tr, RefR t := by
  intro t
  induction t using Tr.ind with
  | h k n v A ac ps K kc ks ih =>
    intro P w d hin hP hb hd
    have hF := bulk_fields k n v A ac ps K kc ks
    have hB : ∀ t ∈ ks, t.pl.bulk ≤ 1048576 := fun t ht => by have := bulk_kid (k := k) (n := n) (v := v) (A := A) (ac := ac) (ps := ps) (K := K) (kc := kc) ht; omega
    have hPL : ∀ p ∈ ps, p.1.length ≤ 1048576 ∧ p.2.length ≤ 1048576 := fun p hp => by
      have h1 := bulkP_mem ps p hp
      have h2 : bulkP ps < (Tr.mk k n v A ac ps K kc ks).pl.bulk := by rw [Tr.pl, PT.bulk]; omega
      omega
    rw [Tr.In] at hin
    obtain ⟨hA, hK, hL⟩ := hin
    show Calls Tryd.prog 29 #[.agg #[.int .i64 k, .string (ba' n), .string (ba' v), .slice A ps.length ac, .slice K ks.length kc], .int .i64 (d : Int)] w _
    rw [Tr.pl, PT.right]
    by_cases h64 : d ≤ 64
    case neg =>
      have e : (decide (d ≤ 64) && headR k n v ps (plL ks).isEmpty && rightL (plL ks) (d + 1) 0) = false := by simp [h64]
      rw [e]
      exact rf_deep k n v A _ ac K _ kc d w (by omega)
    have h64' : decide (d ≤ 64) = true := by simpa using h64
    have NR := fun r h => nameR_g n (by omega) r h
    have VR := fun r h => validR_g v (by omega) r h
    have bad : ∀ {b : Bool}, headR k n v ps (plL ks).isEmpty = false → (decide (d ≤ 64) && headR k n v ps (plL ks).isEmpty && rightL (plL ks) (d + 1) 0) = false := fun h => by rw [h]; simp
    by_cases k1 : k = 1
    · subst k1
      by_cases hn : n = []
      case neg =>
        rw [bad (b := true) (by simp [headR, hn])]
        exact rf1_n n v A ps.length ks.length ac K kc d w h64 hn
      by_cases hv : v = []
      case neg =>
        rw [bad (b := true) (by simp [headR, hn, hv])]
        exact rf1_v n v A ps.length ks.length ac K kc d w h64 hn hv
      by_cases hp : ps = []
      case neg =>
        rw [bad (b := true) (by simp [headR, hn, hv, hp])]
        exact rf1_p n v A ps.length ks.length ac K kc d w h64 hn hv (VR true (vnil hv)) (len_pos hp)
      have hp0 : ps.length = 0 := by rw [hp]; rfl
      rw [hp0]
      have e : (decide (d ≤ 64) && headR 1 n v ps (plL ks).isEmpty && rightL (plL ks) (d + 1) 0) = rightL (plL ks) (d + 1) 0 := by simp [headR, h64', hn, hv, hp]
      rw [e]
      exact rfp1 n v A K ac kc d ks.length w P (Lib.hid hP) ks (Lib.hid rfl) (Lib.hid hK) (Lib.hid hL) (Lib.hid ih) (Lib.hid hB) (by omega) h64 hn hv (VR true (vnil hv))
    by_cases k2 : k = 2
    · subst k2
      by_cases hn : n = []
      case pos =>
        rw [bad (b := true) (by simp [headR, hn, nameX_nil])]
        exact rf2_n n v A ps.length ks.length ac K kc d w h64 hn
      cases hr : nameX n with
      | false =>
        rw [bad (b := true) (by simp [headR, hr])]
        exact rf2_m n v A ps.length ks.length ac K kc d w h64 hn (NR false hr)
      | true =>
      by_cases hv : v = []
      case neg =>
        rw [bad (b := true) (by simp [headR, hr, hv])]
        exact rf2_v n v A ps.length ks.length ac K kc d w h64 hn hv (NR true hr)
      have e : (decide (d ≤ 64) && headR 2 n v ps (plL ks).isEmpty && rightL (plL ks) (d + 1) 0) = (pairsR ps && rightL (plL ks) (d + 1) 0) := by simp [headR, h64', hr, hv]
      rw [e]
      exact rfp2 n v A K ac kc d ps.length ks.length w P (Lib.hid hP) ps (Lib.hid rfl) (Lib.hid hA) (Lib.hid hPL) (by omega) ks (Lib.hid rfl) (Lib.hid hK) (Lib.hid hL) (Lib.hid ih) (Lib.hid hB) (by omega) h64 hn hv (NR true hr) (VR true (vnil hv))
    by_cases k3 : k = 3
    · subst k3
      by_cases hn : n = []
      case pos =>
        rw [bad (b := true) (by simp [headR, hn, nameX_nil])]
        exact rf3_n n v A ps.length ks.length ac K kc d w h64 hn
      cases hr : nameX n with
      | false =>
        rw [bad (b := true) (by simp [headR, hr])]
        exact rf3_m n v A ps.length ks.length ac K kc d w h64 hn (NR false hr)
      | true =>
      cases hx : validX v with
      | false =>
        rw [bad (b := true) (by simp [headR, hr, hx])]
        exact rf3_v n v A ps.length ks.length ac K kc d w h64 hn (NR true hr) (VR false hx)
      | true =>
      by_cases hp : ps = []
      case neg =>
        rw [bad (b := true) (by simp [headR, hp])]
        exact rf3_p n v A ps.length ks.length ac K kc d w h64 hn (NR true hr) (VR true hx) (len_pos hp)
      have hp0 : ps.length = 0 := by rw [hp]; rfl
      rw [hp0]
      by_cases hk : ks = []
      case neg =>
        rw [bad (b := true) (by simp [headR, plL_cons hk])]
        exact rf3_k n v A ks.length ac K kc d w h64 hn (NR true hr) (VR true hx) (len_pos hk)
      have hk0 : ks.length = 0 := by rw [hk]; rfl
      rw [hk0]
      have e : (decide (d ≤ 64) && headR 3 n v ps (plL ks).isEmpty && rightL (plL ks) (d + 1) 0) = true := by simp [headR, h64', hp, hk, plL, rightL, hr, hx]
      rw [e]
      exact rfp3 n v A K ac kc d w h64 hn (NR true hr) (VR true hx)
    by_cases k4 : k = 4
    · subst k4
      by_cases hn : n = []
      case neg =>
        rw [bad (b := true) (by simp [headR, hn])]
        exact rf4_n n v A ps.length ks.length ac K kc d w h64 hn
      cases hx : validX v with
      | false =>
        rw [bad (b := true) (by simp [headR, hx])]
        exact rf4_m n v A ps.length ks.length ac K kc d w h64 hn (VR false hx)
      | true =>
      by_cases hv : v = []
      case pos =>
        rw [bad (b := true) (by simp [headR, hv])]
        exact rf4_v n v A ps.length ks.length ac K kc d w h64 hn hv (VR true hx)
      by_cases hp : ps = []
      case neg =>
        rw [bad (b := true) (by simp [headR, hp])]
        exact rf4_p n v A ps.length ks.length ac K kc d w h64 hn hv (VR true hx) (len_pos hp)
      have hp0 : ps.length = 0 := by rw [hp]; rfl
      rw [hp0]
      by_cases hk : ks = []
      case neg =>
        rw [bad (b := true) (by simp [headR, plL_cons hk])]
        exact rf4_k n v A ks.length ac K kc d w h64 hn hv (VR true hx) (len_pos hk)
      have hk0 : ks.length = 0 := by rw [hk]; rfl
      rw [hk0]
      have e : (decide (d ≤ 64) && headR 4 n v ps (plL ks).isEmpty && rightL (plL ks) (d + 1) 0) = true := by simp [headR, h64', hp, hk, plL, rightL, hn, hx, hv]
      rw [e]
      exact rfp4 n v A K ac kc d w h64 hn hv (VR true hx)
    by_cases k5 : k = 5
    · subst k5
      by_cases hn : n = []
      case neg =>
        rw [bad (b := true) (by simp [headR, hn])]
        exact rf5_n n v A ps.length ks.length ac K kc d w h64 hn
      cases hx : validX v with
      | false =>
        rw [bad (b := true) (by simp [headR, hx])]
        exact rf5_m n v A ps.length ks.length ac K kc d w h64 hn (VR false hx)
      | true =>
      by_cases hp : ps = []
      case neg =>
        rw [bad (b := true) (by simp [headR, hp])]
        exact rf5_p n v A ps.length ks.length ac K kc d w h64 hn (VR true hx) (len_pos hp)
      have hp0 : ps.length = 0 := by rw [hp]; rfl
      rw [hp0]
      by_cases hk : ks = []
      case neg =>
        rw [bad (b := true) (by simp [headR, plL_cons hk])]
        exact rf5_k n v A ks.length ac K kc d w h64 hn (VR true hx) (len_pos hk)
      have hk0 : ks.length = 0 := by rw [hk]; rfl
      rw [hk0]
      have e : (decide (d ≤ 64) && headR 5 n v ps (plL ks).isEmpty && rightL (plL ks) (d + 1) 0) = true := by simp [headR, h64', hp, hk, plL, rightL, hn, hx]
      rw [e]
      exact rfp5 n v A K ac kc d w h64 hn (VR true hx)
    have hh : headR k n v ps (plL ks).isEmpty = false := by simp [headR, k1, k2, k3, k4, k5]
    rw [bad (b := true) hh]
    by_cases hl : k < 1
    · exact rf_low k n v A _ ac K _ kc d w h64 hl
    · exact rf_high k n v A _ ac K _ kc d w h64 (by omega)
end Go.Proofs.YtjpopmgnhgancaaDoor
namespace Go.Proofs.YtjpopmgnhgancaaDoor
open Go.RowKit Go.Lib
set_option maxRecDepth 100000
set_option maxHeartbeats 4000000
theorem valid_h (l : List UInt8) (hl : l.length ≤ maxLen) (b : Bool) (hb : validX l = b) : Hid (∀ (g cap : Nat) (w1 : World), tabs w1 → w1.cell? ⟨g, 0, none⟩ = some (.string (ba' l)) → g < w1.heap.size → Calls Tryd.prog 63 #[.slice (some ⟨g, 0, none⟩) 1 cap] w1 fun e w' => e = .returned (.bool b) ∧ Below w1.heap.size w1 w') :=
  Lib.hid fun g cap w1 hT h0 hg => validP_any l hl b hb g cap w1 hT h0 hg
theorem ndRight_any : ∀ t : Tr, NdR t := by
  intro t
  induction t using Tr.ind with
  | h k n v A ac ps K kc ks ih =>
    intro P w d hT hin hP hb hd
    have hF := fit_fields hb
    have hB : ∀ t ∈ ks, t.pl.fit := fit_kid hb
    have hPL := fit_pairs hb
    rw [Tr.In] at hin
    obtain ⟨hA, hK, hL⟩ := hin
    show Calls Tryd.prog 70 #[.agg #[.int .i64 k, .string (ba' n), .string (ba' v), .slice A ps.length ac, .slice K ks.length kc], .int .i64 (d : Int)] w _
    rw [Tr.pl, PT.right]
    by_cases h64 : d ≤ 64
    case neg =>
      have e : (decide (d ≤ 64) && headR k n v ps (plL ks).isEmpty && rightL (plL ks) (d + 1) 0) = false := by simp [h64]
      rw [e]
      exact nd_deep k n v A K _ _ ac kc d w hT (by omega)
    have h64' : decide (d ≤ 64) = true := by simpa using h64
    have NR := fun r h => nameP_g n hF.1 r h
    have VR := fun r h => valid_h v hF.2.1 r h
    have HKD : Hid (∀ w1 : World, Below w.heap.size w w1 → Calls Tryd.prog 76 #[.slice K ks.length kc, .int .i64 ((d : Int) + 1)] w1 fun e w' => e = .returned (.bool (rightL (plL ks) (d + 1) 0)) ∧ Below w1.heap.size w1 w') := Lib.hid fun w1 hb1 => by
      have := kids_any ks K ks.length kc (d + 1) P w1 (Utf8Tabs_below hT hb1) (Lib.hid rfl) (Lib.hid (hK.below hP hb1)) (Lib.hid (hL.below hP hb1)) (Lib.hid fun b h => Nat.lt_of_lt_of_le (hP b h) hb1.size) (Lib.hid ih) (Lib.hid hB) (by omega) (by omega)
      rwa [show ((d + 1 : Nat) : Int) = (d : Int) + 1 by push_cast; rfl] at this
    have HPR : Hid (∀ w1 : World, Below w.heap.size w w1 → Calls Tryd.prog 77 #[.slice A ps.length ac] w1 fun e w' => e = .returned (.bool (pairsR ps)) ∧ Below w1.heap.size w1 w') := Lib.hid fun w1 hb1 =>
      pairs_any ps A ps.length ac P w1 (Utf8Tabs_below hT hb1) (hA.below hP hb1) (fun b h => Nat.lt_of_lt_of_le (hP b h) hb1.size) rfl (by omega) hPL
    have bad : headR k n v ps (plL ks).isEmpty = false → (decide (d ≤ 64) && headR k n v ps (plL ks).isEmpty && rightL (plL ks) (d + 1) 0) = false := fun h => by rw [h]; simp
    have leafe : ∀ k', Hid (∀ w1 : World, Calls Tryd.prog 78 #[.agg #[.int .i64 k', .string (ba' n), .string (ba' v), .slice A ps.length ac, .slice K ks.length kc]] w1 fun e w' => e = .returned (.bool (ps.isEmpty && ks.isEmpty)) ∧ Below w1.heap.size w1 w') := fun k' => Lib.hid fun w1 => by
      by_cases hp : ps = []
      · have hp0 : ps.length = 0 := by rw [hp]; rfl
        rw [hp0]
        by_cases hk : ks = []
        · have hk0 : ks.length = 0 := by rw [hk]; rfl
          rw [hk0, show (ps.isEmpty && ks.isEmpty) = true by rw [hp, hk]; rfl]
          exact leaf_yes k' n v A K ac kc w1
        · rw [show (ps.isEmpty && ks.isEmpty) = false by rw [hp]; simpa using hk]
          exact leaf_k k' n v A K ks.length ac kc w1 (len_pos hk)
      · rw [show (ps.isEmpty && ks.isEmpty) = false by simp [hp]]
        exact leaf_p k' n v A K ps.length ks.length ac kc w1 (len_pos hp)
    have plE : (plL ks).isEmpty = ks.isEmpty := by cases ks <;> rfl
    have leafR : ∀ {k'}, headR k' n v ps (plL ks).isEmpty = (ps.isEmpty && ks.isEmpty) → (decide (d ≤ 64) && headR k' n v ps (plL ks).isEmpty && rightL (plL ks) (d + 1) 0) = (ps.isEmpty && ks.isEmpty) := fun h => by
      rw [h, h64']
      cases ks with
      | nil => simp [plL, rightL]
      | cons a l => simp
    by_cases k1 : k = 1
    · subst k1
      by_cases hn : n = []
      case neg =>
        rw [bad (by simp [headR, hn])]
        exact nd1_n n v A K ps.length ks.length ac kc d w hT h64 hn
      by_cases hv : v = []
      case neg =>
        rw [bad (by simp [headR, hn, hv])]
        exact nd1_v n v A K ps.length ks.length ac kc d w hT h64 hn hv
      by_cases hp : ps = []
      case neg =>
        rw [bad (by simp [headR, hn, hv, hp])]
        exact nd1_p n v A K ps.length ks.length ac kc d w hT h64 hn hv (len_pos hp)
      have hp0 : ps.length = 0 := by rw [hp]; rfl
      rw [hp0]
      have e : (decide (d ≤ 64) && headR 1 n v ps (plL ks).isEmpty && rightL (plL ks) (d + 1) 0) = rightL (plL ks) (d + 1) 0 := by simp [headR, h64', hn, hv, hp]
      rw [e]
      exact nd1_k n v A K ks.length ac kc d w hT h64 hn hv _ HKD
    by_cases k2 : k = 2
    · subst k2
      cases hr : nameX n with
      | false =>
        rw [bad (by simp [headR, hr])]
        exact nd2_n n v A K ps.length ks.length ac kc d w hT h64 (NR false hr)
      | true =>
      by_cases hv : v = []
      case neg =>
        rw [bad (by simp [headR, hr, hv])]
        exact nd2_v n v A K ps.length ks.length ac kc d w hT h64 hv (NR true hr)
      cases hpr : pairsR ps with
      | false =>
        rw [hpr] at HPR
        rw [bad (by simp [headR, hr, hv, hpr])]
        exact nd2_p n v A K ps.length ks.length ac kc d w hT h64 hv (NR true hr) HPR
      | true =>
      rw [hpr] at HPR
      have e : (decide (d ≤ 64) && headR 2 n v ps (plL ks).isEmpty && rightL (plL ks) (d + 1) 0) = rightL (plL ks) (d + 1) 0 := by simp [headR, h64', hr, hv, hpr]
      rw [e]
      exact nd2_k n v A K ps.length ks.length ac kc d w hT h64 hv (NR true hr) HPR _ HKD
    by_cases k3 : k = 3
    · subst k3
      cases hr : nameX n with
      | false =>
        rw [bad (by simp [headR, hr])]
        exact nd3_n n v A K ps.length ks.length ac kc d w hT h64 (NR false hr)
      | true =>
      cases hx : validX v with
      | false =>
        rw [bad (by simp [headR, hr, hx])]
        exact nd3_v n v A K ps.length ks.length ac kc d w hT h64 (NR true hr) (VR false hx)
      | true =>
      rw [leafR (by simp [headR, hr, hx, plE])]
      exact nd3_l _ n v A K ps.length ks.length ac kc d w hT h64 (NR true hr) (VR true hx) (leafe 3)
    by_cases k4 : k = 4
    · subst k4
      by_cases hn : n = []
      case neg =>
        rw [bad (by simp [headR, hn])]
        exact nd4_n n v A K ps.length ks.length ac kc d w hT h64 hn
      by_cases hv : v = []
      case pos =>
        rw [bad (by simp [headR, hn, hv])]
        exact nd4_v n v A K ps.length ks.length ac kc d w hT h64 hn hv
      cases hx : validX v with
      | false =>
        rw [bad (by simp [headR, hn, hx])]
        exact nd4_x n v A K ps.length ks.length ac kc d w hT h64 hn hv (VR false hx)
      | true =>
      have hve : v.isEmpty = false := by cases v with | nil => exact absurd rfl hv | cons a l => rfl
      rw [leafR (by simp [headR, hn, hve, hx, plE])]
      exact nd4_l _ n v A K ps.length ks.length ac kc d w hT h64 hn hv (VR true hx) (leafe 4)
    by_cases k5 : k = 5
    · subst k5
      by_cases hn : n = []
      case neg =>
        rw [bad (by simp [headR, hn])]
        exact nd5_n n v A K ps.length ks.length ac kc d w hT h64 hn
      cases hx : validX v with
      | false =>
        rw [bad (by simp [headR, hn, hx])]
        exact nd5_x n v A K ps.length ks.length ac kc d w hT h64 hn (VR false hx)
      | true =>
      rw [leafR (by simp [headR, hn, hx, plE])]
      exact nd5_l _ n v A K ps.length ks.length ac kc d w hT h64 hn (VR true hx) (leafe 5)
    rw [bad (by simp [headR, k1, k2, k3, k4, k5])]
    exact nd_other k n v A K ps.length ks.length ac kc d w hT h64 k1 k2 k3 k4 k5
end Go.Proofs.YtjpopmgnhgancaaDoor
namespace Go.Proofs.YtjpopmgnhgancaaDoor
open Go.RowKit Go.Lib
set_option maxRecDepth 100000
set_option maxHeartbeats 8000000
theorem count_any : ∀ (t : Tr) (P : Nat → Prop) (w : World), t.In P w → (∀ b, P b → b < w.heap.size) → t.pl.fit →
    Calls Tryd.prog 56 #[t.v] w fun e w' => e = .returned (.int .i64 (t.pl.size : Int)) ∧ Below w.heap.size w w' := by
  intro t
  induction t using Tr.ind with
  | h k n v A ac ps K kc ks ih =>
    intro P w hin hP hb
    have hF := fit_fields hb
    have hkid : ∀ t ∈ ks, t.pl.fit := fit_kid hb
    have hps : ps.length ≤ 1048576 := hF.2.2.1
    have hks : ks.length ≤ 1048576 := hF.2.2.2
    have hsz := hb.1
    rw [Tr.In] at hin
    obtain ⟨_, hK, hL⟩ := hin
    have HK := Lib.hid hK; have HL := Lib.hid hL; have HP := Lib.hid hP; have IH := Lib.hid ih; have HB := Lib.hid hkid
    rw [Tr.pl, PT.size] at hsz ⊢
    obtain ⟨res, hres⟩ : ∃ res, 1 + ps.length + sizeL (plL ks) = res := ⟨_, rfl⟩
    rw [hres] at hsz ⊢
    have HR := Lib.hid hres
    obtain ⟨np, hnp⟩ : ∃ np, ps.length = np := ⟨_, rfl⟩
    obtain ⟨nk, hnk⟩ : ∃ nk, ks.length = nk := ⟨_, rfl⟩
    have HNK := Lib.hid hnk
    have HNP := Lib.hid hnp
    rw [hnp] at hps
    rw [hnk] at hks
    have hres1 : res ≤ 1048576 := hsz
    show Calls Tryd.prog 56 #[.agg #[.int .i64 k, .string (ba' n), .string (ba' v), .slice A ps.length ac, .slice K ks.length kc]] w _
    rw [hnp, hnk]
    clear hK hL hP ih hkid hres hnp hnk hF hb hsz
    go_enter Tryd.func56, Tryd.ntmps56
    go_wp2
    go_loopw [3, 13] (fun s3 s13 wx => ∃ (i l : Nat), s13 = .int .i64 i ∧ s3 = .int .i64 (l : Int) ∧ i ≤ nk ∧ Hid (l + sizeL ((plL ks).drop i) = res) ∧ Below w.heap.size w wx) (fun _ s13 _ => nk - (intOf s13).toNat)
    case atStart =>
      exact ⟨0, 1 + np, rfl, by go_num, by omega, Lib.hid (by rw [← HR.out, ← HNP.out]; rfl), ba (Below.refl _ _)⟩
    case round =>
      obtain ⟨i, l, rfl, rfl, hi, hrel, hBW⟩ := hrel
      by_cases hlt : i < nk
      · have g0 : decide ((i : Int) < (nk : Int)) = true := by first | (simp; done) | (simp; omega)
        have hil : i < ks.length := by rw [HNK.out]; exact hlt
        obtain ⟨t, ht⟩ : ∃ t, ks[i]? = some t := ⟨_, List.getElem?_eq_getElem hil⟩
        have htm := List.mem_of_getElem? ht
        have hin' := (inL_iff.1 HL.out t htm).below HP.out hBW
        have hc := fun P w => IH.out t htm P w
        have hbk := HB.out t htm
        have hst : l + sizeL ((plL ks).drop i) = (l + t.pl.size) + sizeL ((plL ks).drop (i + 1)) := by rw [drop_at (plL_at ht), sizeL]; omega
        obtain ⟨k', n', v', A', ac', ps', K', kc', ks'⟩ := t
        have hka := HK.out.below HP.out hBW
        rw [HNK.out] at hka
        obtain ⟨ad, rfl, hPad, d0, d1, d2, d3, d4⟩ := kid_at hka ht hlt
        have hb0 : (ad.add (i * 5)).block < wr.heap.size := by rw [block_of_add]; exact Nat.lt_of_lt_of_le (HP.out _ hPad) hBW.size
        have HC := Lib.hid (fun w1 hb1 => hc P w1 (hin'.below (fun b hb => Nat.lt_of_lt_of_le (HP.out b hb) hBW.size) hb1) (fun b hb => Nat.lt_of_lt_of_le (Nat.lt_of_lt_of_le (HP.out b hb) hBW.size) (Below.size hb1)) hbk)
        obtain ⟨l2, hl2⟩ : ∃ l2, (Tr.mk k' n' v' A' ac' ps' K' kc' ks').pl.size = l2 := ⟨_, rfl⟩
        rw [hl2] at HC hst
        have HS := Lib.hid (hst.symm.trans hrel.out)
        have hll : l + l2 ≤ 1048576 := by have := HS.out; omega
        obtain ⟨np', hnp'⟩ : ∃ q, ps'.length = q := ⟨_, rfl⟩
        obtain ⟨nk', hnk'⟩ : ∃ q, ks'.length = q := ⟨_, rfl⟩
        simp only [Tr.v] at HC
        rw [hnp', hnk'] at HC
        rw [hnp'] at d3
        rw [hnk'] at d4
        clear hst hrel hc hin' hka hl2 ht htm hil hnp' hnk'
        go_wp2_with (go_at_call 56; go_must (refine (HC.out _ (by repeat (with_reducible (first | exact Below.refl _ _ | assumption | apply ba | apply bd | apply bdr | (refine bs ?_ (by first | assumption | (simp; done) | (simp; omega))) | (refine bt ?_ (by assumption)))))).mono ?_); rintro e w1 ⟨rfl, hb1⟩)
        go_roundw
        case rel => exact ⟨i + 1, l + l2, by go_num, by go_num, by omega, HS, by repeat (with_reducible (first | exact Below.refl _ _ | assumption | apply ba | apply bd | apply bdr | (refine bs ?_ (by first | assumption | (simp; done) | (simp; omega))) | (refine bt ?_ (by assumption))))⟩
        case measure => simp [intOf]; omega
      · obtain rfl : i = nk := by omega
        have g0 : decide (((i : Nat) : Int) < ((i : Nat) : Int)) = false := by simp
        have hr : l = res := by
          have := hrel.out
          rw [List.drop_eq_nil_of_le (by rw [plL_len, HNK.out]; exact Nat.le_refl _), sizeL] at this
          exact this
        subst hr
        go_wp2
        go_ret
        exact ⟨rfl, by repeat (with_reducible (first | exact Below.refl _ _ | assumption | apply ba | apply bd | apply bdr | (refine bs ?_ (by first | assumption | (simp; done) | (simp; omega))) | (refine bt ?_ (by assumption))))⟩
theorem right_one (t : Tr) (P : Nat → Prop) (w : World) (g cap : Nat) (hT : tabs w) (hin : t.In P w) (hP : ∀ b, P b → b < w.heap.size) (hb : t.pl.fit) (hg : g < w.heap.size) (hc : ∀ j u, t.cells[j]? = some u → w.cell? ⟨g, j, none⟩ = some u) :
    Calls Tryd.prog 55 #[.slice (some ⟨g, 0, none⟩) 1 cap] w fun e w' => e = .returned (.bool (t.pl.right 0)) ∧ Below w.heap.size w w' := by
  have HC := Lib.hid (fun (w1 : World) (hb1 : Below w.heap.size w w1) => ndRight_any t P w1 0 (Utf8Tabs_below hT hb1) (hin.below hP hb1) (fun b h => Nat.lt_of_lt_of_le (hP b h) hb1.size) hb (by decide))
  obtain ⟨r, hr⟩ : ∃ r, t.pl.right 0 = r := ⟨_, rfl⟩
  rw [hr] at HC ⊢
  obtain ⟨k, n, v, A, ac, ps, K, kc, ks⟩ := t
  simp only [Tr.v] at HC
  have h0 := hc 0 _ rfl; have h1 := hc 1 _ rfl; have h2 := hc 2 _ rfl; have h3 := hc 3 _ rfl; have h4 := hc 4 _ rfl
  obtain ⟨np, hnp⟩ : ∃ q, ps.length = q := ⟨_, rfl⟩
  obtain ⟨nk, hnk⟩ : ∃ q, ks.length = q := ⟨_, rfl⟩
  rw [hnp, hnk] at HC
  rw [hnp] at h3
  rw [hnk] at h4
  clear hc hin hb hr hT hnp hnk hP
  go_enter Tryd.func55, Tryd.ntmps55
  go_wp2
  go_loopw [7] (fun s7 wx => ∃ i : Nat, s7 = .int .i64 i ∧ i ≤ 1 ∧ (i = 1 → r = true) ∧ Below w.heap.size w wx) (fun s7 _ => 1 - (intOf s7).toNat)
  case atStart => exact ⟨0, rfl, by omega, fun h => absurd h (by decide), by repeat (with_reducible (first | exact Below.refl _ _ | assumption | apply ba | apply bd | apply bdr | (refine bs ?_ (by first | assumption | (simp; done) | (simp; omega))) | (refine bt ?_ (by assumption))))⟩
  case round =>
    obtain ⟨i, rfl, hi, e1, hB⟩ := hrel
    have d0 := (hB.cell (p := ⟨g, 0, none⟩) hg).trans h0
    have d1 := (hB.cell (p := ⟨g, 1, none⟩) hg).trans h1
    have d2 := (hB.cell (p := ⟨g, 2, none⟩) hg).trans h2
    have d3 := (hB.cell (p := ⟨g, 3, none⟩) hg).trans h3
    have d4 := (hB.cell (p := ⟨g, 4, none⟩) hg).trans h4
    have hgr : g < wr.heap.size := Nat.lt_of_lt_of_le hg hB.size
    clear h0 h1 h2 h3 h4
    rcases (by omega : i = 0 ∨ i = 1) with rfl | rfl
    · clear e1
      cases r with
      | false =>
        go_wp2_with (go_at_call 70; go_must (refine (HC.out _ (by repeat (with_reducible (first | exact Below.refl _ _ | assumption | apply ba | apply bd | apply bdr | (refine bs ?_ (by first | assumption | (simp; done) | (simp; omega))) | (refine bt ?_ (by assumption)))))).mono ?_); rintro e w1 ⟨rfl, hb1⟩)
        go_ret
        exact ⟨rfl, by repeat (with_reducible (first | exact Below.refl _ _ | assumption | apply ba | apply bd | apply bdr | (refine bs ?_ (by first | assumption | (simp; done) | (simp; omega))) | (refine bt ?_ (by assumption))))⟩
      | true =>
        go_wp2_with (go_at_call 70; go_must (refine (HC.out _ (by repeat (with_reducible (first | exact Below.refl _ _ | assumption | apply ba | apply bd | apply bdr | (refine bs ?_ (by first | assumption | (simp; done) | (simp; omega))) | (refine bt ?_ (by assumption)))))).mono ?_); rintro e w1 ⟨rfl, hb1⟩)
        go_roundw
        case rel => exact ⟨1, rfl, by omega, by simp, by repeat (with_reducible (first | exact Below.refl _ _ | assumption | apply ba | apply bd | apply bdr | (refine bs ?_ (by first | assumption | (simp; done) | (simp; omega))) | (refine bt ?_ (by assumption))))⟩
        case measure => simp [intOf]
    · obtain rfl := e1 rfl
      clear e1
      go_wp2
      go_ret
      exact ⟨rfl, by repeat (with_reducible (first | exact Below.refl _ _ | assumption | apply ba | apply bd | apply bdr | (refine bs ?_ (by first | assumption | (simp; done) | (simp; omega))) | (refine bt ?_ (by assumption))))⟩
theorem room_any (sb lim : Nat) (A : Option Addr) (c : Nat) (L : List En) (w : World) (hS : StoreAt w sb lim A c L) (hl : lim ≤ 1048576) (hL : L.length ≤ 1048576) : Calls Tryd.prog 57 #[.pointer (some ⟨sb, 0, none⟩)] w fun e w' => e = .returned (.int .i64 ((lim : Int) - (L.length : Int))) ∧ Below w.heap.size w w' := by
  have HE := Lib.hid (fun (w1 : World) (hb1 : Below w.heap.size w w1) => len_same sb lim A c L w1 (hS.below hb1))
  obtain ⟨h0, h1, h2, h3, h4⟩ := hS
  obtain ⟨n, hn⟩ : ∃ n, L.length = n := ⟨_, rfl⟩
  rw [hn] at h2 hL HE ⊢
  have hw : IntKind.i64.wrap ((lim : Int) - (n : Int)) = (lim : Int) - (n : Int) := by rw [IntKind.wrap_i64]; omega
  clear hn h4
  go_enter Tryd.func57, Tryd.ntmps57
  go_wp2
  go_region_with (go_at_call 71; refine (HE.out _ (by repeat (with_reducible (first | exact Below.refl _ _ | assumption | apply ba | apply bd | apply bdr | (refine bs ?_ (by first | assumption | (simp; done) | (simp; omega))) | (refine bt ?_ (by assumption)))))).mono ?_; rintro e w9 ⟨rfl, rfl⟩)
  all_goals go_wp2
  all_goals go_ret
  all_goals exact ⟨by first | rfl | (simp [hw]; done), by repeat (with_reducible (first | exact Below.refl _ _ | assumption | apply ba | apply bd | apply bdr | (refine bs ?_ (by first | assumption | (simp; done) | (simp; omega))) | (refine bt ?_ (by assumption))))⟩
theorem new_any (lim : Nat) (w : World) (h1 : 1 ≤ lim) (h2 : lim ≤ 1048576) : Calls Tryd.prog 27 #[.int .i64 (lim : Int)] w fun e w' => e = .returned (.tuple #[.pointer (some ⟨w.heap.size, 0, none⟩), .int .i64 0]) ∧ w' = w.alloc (.cells #[.int .i64 (lim : Int), .slice none 0 0] 98) := by
  have g1 : decide ((lim : Int) < 1) = false := by simp; omega
  have g2 : decide ((lim : Int) > 1048576) = false := by simp; omega
  have g3 : decide (1048576 < (lim : Int)) = false := by simp; omega
  go_enter Tryd.func27, Tryd.ntmps27
  go_wp2
  exact bodyPost_ret (v := .tuple #[.pointer (some ⟨w.heap.size, 0, none⟩), .int .i64 0]) (by simp [results, Tryd.results27, go_sem]) rfl ⟨rfl, rfl⟩
theorem new_store (lim : Nat) (w : World) : StoreAt (w.alloc (.cells #[.int .i64 (lim : Int), .slice none 0 0] 98)) w.heap.size lim none 0 [] :=
  ⟨by simp, by simp, by simp, by simp, World.ownsRow_nil _ _ _ _⟩
end Go.Proofs.YtjpopmgnhgancaaDoor
namespace Go.Proofs.YtjpopmgnhgancaaDoor
open Go.RowKit Go.Lib
set_option maxRecDepth 100000
set_option maxHeartbeats 8000000
theorem at_in (sb lim : Nat) (A : Option Addr) (c : Nat) (L : List En) (i : Nat) (k : Int) (n v : List UInt8) (p e : Nat) (w : World) (hS : StoreAt w sb lim A c L) (hi : L[i]? = some ⟨k, n, v, p, e⟩) (hL : L.length ≤ 1048576) :
    Calls Tryd.prog 60 #[.pointer (some ⟨sb, 0, none⟩), .int .i64 ((i : Int) + 1)] w fun e' w' => e' = .returned (.agg #[.int .i64 k, .string (ba' n), .string (ba' v), .int .i64 (p : Int), .int .i64 (e : Int)]) ∧ Below w.heap.size w w' := by
  have HE := Lib.hid (fun (w1 : World) (hb1 : Below w.heap.size w w1) => len_same sb lim A c L w1 (hS.below hb1))
  have hlt : i < L.length := (List.getElem?_eq_some_iff.1 hi).1
  obtain ⟨h0, h1, h2, h3, h4⟩ := hS
  obtain ⟨g, hg⟩ : ∃ g, A = some ⟨g, 0, none⟩ := by
    rcases h4.2 with ⟨h', hz⟩ | ⟨g, cap, cur, h', _⟩
    · omega
    · simp at h'
      exact ⟨g, h'.1⟩
  subst hg
  have hgb := own_lt h4 (b := g) rfl
  have rd := fun o u hu (ho : o < 5) => (h4.cellAt (i * 5 + o) (by omega)).trans (rowE_at L i _ o u hi hu ho)
  have r0 : w.cell? ⟨g, i * 5, none⟩ = _ := rd 0 _ rfl (by decide)
  have r1 := rd 1 _ rfl (by decide)
  have r2 := rd 2 _ rfl (by decide)
  have r3 := rd 3 _ rfl (by decide)
  have r4 := rd 4 _ rfl (by decide)
  obtain ⟨ln, hn⟩ : ∃ n, L.length = n := ⟨_, rfl⟩
  rw [hn] at h2 hL HE hlt
  clear hn h4 rd hi
  have g1 : decide ((i : Int) + 1 < 1) = false := by simp; omega
  have g2 : decide ((i : Int) + 1 > (ln : Int)) = false := by simp; omega
  have g3 : decide ((ln : Int) < (i : Int) + 1) = false := by simp; omega
  have g4 : decide ((i : Int) < (ln : Int)) = true := by first | (simp; done) | (simp; omega)
  have hw : (i : Int) + 1 - 1 = (i : Int) := by omega
  go_enter Tryd.func60, Tryd.ntmps60
  go_wp2_with (go_at_call 71; go_must (refine (HE.out _ (by repeat (with_reducible (first | exact Below.refl _ _ | assumption | apply ba | apply bd | apply bdr | (refine bs ?_ (by first | assumption | (simp; done) | (simp; omega))) | (refine bt ?_ (by assumption)))))).mono ?_); rintro e w9 ⟨rfl, rfl⟩)
  exact bodyPost_ret (v := .agg #[.int .i64 k, .string (ba' n), .string (ba' v), .int .i64 (p : Int), .int .i64 (e : Int)]) (by simp [results, Tryd.results60, go_sem, *]) rfl ⟨rfl, by repeat (with_reducible (first | exact Below.refl _ _ | assumption | apply ba | apply bd | apply bdr | (refine bs ?_ (by first | assumption | (simp; done) | (simp; omega))) | (refine bt ?_ (by assumption))))⟩
theorem kind_in (sb lim : Nat) (A : Option Addr) (c : Nat) (L : List En) (i : Nat) (k : Int) (n v : List UInt8) (p e : Nat) (w : World) (hS : StoreAt w sb lim A c L) (hi : L[i]? = some ⟨k, n, v, p, e⟩) (hL : L.length ≤ 1048576) :
    Calls Tryd.prog 39 #[.pointer (some ⟨sb, 0, none⟩), .int .i64 ((i : Int) + 1)] w fun e' w' => e' = .returned (.int .i64 k) ∧ Below w.heap.size w w' := by
  have HA := Lib.hid (fun (w1 : World) (hb1 : Below w.heap.size w w1) => at_in sb lim A c L i k n v p e w1 (hS.below hb1) hi hL)
  have hfld := fun (x0 x1 x2 x3 x4 : Value) (w : World) => (by kernel_rfl : (Instr.field 109 (.agg #[x0, x1, x2, x3, x4]) 0).run Tryd.prog w = .ok (x0) w)
  clear hS hi hL
  go_enter Tryd.func39, Tryd.ntmps39
  go_wp2_with (go_at_call 60; go_must (refine (HA.out _ (by repeat (with_reducible (first | exact Below.refl _ _ | assumption | apply ba | apply bd | apply bdr | (refine bs ?_ (by first | assumption | (simp; done) | (simp; omega))) | (refine bt ?_ (by assumption)))))).mono ?_); rintro e w1 ⟨rfl, hb1⟩)
  go_ret
  exact ⟨rfl, by repeat (with_reducible (first | exact Below.refl _ _ | assumption | apply ba | apply bd | apply bdr | (refine bs ?_ (by first | assumption | (simp; done) | (simp; omega))) | (refine bt ?_ (by assumption))))⟩
end Go.Proofs.YtjpopmgnhgancaaDoor
namespace Go.Proofs.YtjpopmgnhgancaaDoor
open Go.RowKit Go.Lib
/-- The nodes of trees behind b nodes, all under p. -/
structure Nest (b p : Nat) (M : List En) : Prop where
  one : ∀ i x, M[i]? = some x → x.k ≠ 0 ∧ (x.p = p ∨ (b < x.p ∧ x.p ≤ b + i)) ∧ b + i + 1 ≤ x.e ∧ x.e ≤ b + M.length
  two : ∀ n m x y, n < m → M[n]? = some x → M[m]? = some y → (b + m + 1 ≤ x.e ↔ (b + n + 1 ≤ y.p ∧ y.p ≤ x.e)) ∧ (b + m + 1 ≤ x.e → y.e ≤ x.e)
theorem Nest.nil (b p : Nat) : Nest b p [] := ⟨fun i x h => by simp at h, fun n m x y _ h _ => by simp at h⟩
theorem Nest.app {b p : Nat} {M N : List En} (h : Nest b p M) (k : Nest (b + M.length) p N) (hp : p ≤ b) : Nest b p (M ++ N) := by
  refine ⟨fun i x hx => ?_, fun n m x y hnm hx hy => ?_⟩
  · by_cases hi : i < M.length
    · rw [List.getElem?_append_left hi] at hx
      obtain ⟨h1, h2, h3, h4⟩ := h.one i x hx
      rw [List.length_append]
      exact ⟨h1, h2, h3, by omega⟩
    · rw [List.getElem?_append_right (by omega)] at hx
      obtain ⟨h1, h2, h3, h4⟩ := k.one _ x hx
      rw [List.length_append]
      exact ⟨h1, by omega, by omega, by omega⟩
  · by_cases hi : m < M.length
    · rw [List.getElem?_append_left hi] at hy
      rw [List.getElem?_append_left (by omega)] at hx
      exact h.two n m x y hnm hx hy
    · rw [List.getElem?_append_right (by omega)] at hy
      by_cases hn : n < M.length
      · rw [List.getElem?_append_left hn] at hx
        obtain ⟨_, _, _, h4⟩ := h.one n x hx
        obtain ⟨_, k2, _, _⟩ := k.one _ y hy
        exact ⟨⟨fun _ => by omega, fun _ => by omega⟩, fun _ => by omega⟩
      · rw [List.getElem?_append_right (by omega)] at hx
        have := k.two (n - M.length) (m - M.length) x y (by omega) hx hy
        rw [show b + M.length + (m - M.length) = b + m by omega, show b + M.length + (n - M.length) = b + n by omega] at this
        exact this
theorem Nest.cons {b p : Nat} {M : List En} (h : Nest (b + 1) (b + 1) M) (k : Int) (n v : List UInt8) (e : Nat) (hk : k ≠ 0) (he : e = b + (1 + M.length)) : Nest b p (⟨k, n, v, p, e⟩ :: M) := by
  refine ⟨fun i x hx => ?_, fun i m x y hnm hx hy => ?_⟩
  · cases i with
    | zero =>
      simp at hx
      subst hx
      exact ⟨hk, .inl rfl, by show _ ≤ e; omega, by show e ≤ _; simp; omega⟩
    | succ i =>
      rw [List.getElem?_cons_succ] at hx
      obtain ⟨h1, h2, h3, h4⟩ := h.one i x hx
      rw [List.length_cons]
      exact ⟨h1, .inr (by omega), by omega, by omega⟩
  · cases m with
    | zero => omega
    | succ m =>
      rw [List.getElem?_cons_succ] at hy
      obtain ⟨_, k2, k3, k4⟩ := h.one m y hy
      have hm := (List.getElem?_eq_some_iff.1 hy).1
      cases i with
      | zero =>
        simp at hx
        subst hx
        exact ⟨⟨fun _ => ⟨by omega, by show _ ≤ e; omega⟩, fun _ => by show _ ≤ e; omega⟩, fun _ => by show _ ≤ e; omega⟩
      | succ i =>
        rw [List.getElem?_cons_succ] at hx
        have := h.two i m x y (by omega) hx hy
        rw [show b + (m + 1) + 1 = b + 1 + m + 1 by omega, show b + (i + 1) + 1 = b + 1 + i + 1 by omega]
        exact this
theorem nest_pairs : ∀ (ps : List (List UInt8 × List UInt8)) (b own : Nat), own ≤ b → Nest b own (layP ps b own)
  | [], b, own, _ => Nest.nil b own
  | p :: ps, b, own, h => by
    have h1 : Nest b own [⟨3, p.1, p.2, own, b + 1⟩] := Nest.cons (Nest.nil _ _) 3 p.1 p.2 (b + 1) (by decide) rfl
    exact h1.app (nest_pairs ps (b + 1) own (by omega)) h
theorem right_knot0 {k : Int} {n v : List UInt8} {ps : List (List UInt8 × List UInt8)} {e : Bool} (h : headR k n v ps e = true) : k ≠ 0 := by
  rintro rfl
  simp [headR] at h
theorem nest_lay : ∀ (t : PT) (d b p : Nat), t.right d = true → p ≤ b → Nest b p (t.lay b p) := by
  intro t
  induction t using PT.ind with
  | h k n v ps ks ih =>
    intro d b p hr hp
    rw [PT.right] at hr
    simp only [Bool.and_eq_true] at hr
    obtain ⟨⟨_, hh⟩, hk⟩ := hr
    have aux : ∀ (L : List PT), (∀ t ∈ L, ∀ d b p : Nat, t.right d = true → p ≤ b → Nest b p (t.lay b p)) → ∀ (d : Nat) (last : Int) (b p : Nat), rightL L d last = true → p ≤ b → Nest b p (layL L b p) := by
      intro L
      induction L with
      | nil => intro _ d last b p _ _; exact Nest.nil b p
      | cons t L ihL =>
        intro ht d last b p hr hp
        rw [rightL] at hr
        simp only [Bool.and_eq_true] at hr
        rw [layL]
        have h2 := ihL (fun u hu => ht u (.tail _ hu)) d _ (b + t.size) p hr.2 (by omega)
        exact (ht t (.head _) d b p hr.1.2 hp).app (by rw [lay_len]; exact h2) hp
    rw [PT.lay]
    have hks := aux ks ih (d + 1) 0 (b + 1 + ps.length) (b + 1) hk (by omega)
    have hps := nest_pairs ps (b + 1) (b + 1) (Nat.le_refl _)
    exact Nest.cons (hps.app (by rw [layP_len]; exact hks) (Nat.le_refl _)) k n v _ (right_knot0 hh) (by rw [List.length_append, layP_len, layL_len]; omega)
/-- A store's nodes. -/
theorem nest_more {L : List En} {t : PT} (h : Nest 0 0 L) (hr : t.right 0 = true) : Nest 0 0 (L ++ t.lay L.length 0) :=
  h.app (by rw [Nat.zero_add]; exact nest_lay t 0 L.length 0 hr (Nat.zero_le _)) (Nat.le_refl _)
/-- The parent of a number, and its end; of none 0. -/
def par (L : List En) (n : Nat) : Nat := ((L[n - 1]?).map En.p).getD 0
def fin (L : List En) (n : Nat) : Nat := ((L[n - 1]?).map En.e).getD 0
theorem par_lt {L : List En} (h : Nest 0 0 L) {n : Nat} (h1 : 1 ≤ n) (h2 : n ≤ L.length) : par L n < n := by
  have hx : L[n - 1]? = some (L[n - 1]'(by omega)) := List.getElem?_eq_getElem (by omega)
  obtain ⟨_, hp, _, _⟩ := h.one _ _ hx
  unfold par
  rw [hx]
  show (L[n - 1]'(by omega)).p < n
  omega
theorem fin_ge {L : List En} (h : Nest 0 0 L) {n : Nat} (h1 : 1 ≤ n) (h2 : n ≤ L.length) : n ≤ fin L n ∧ fin L n ≤ L.length := by
  have hx : L[n - 1]? = some (L[n - 1]'(by omega)) := List.getElem?_eq_getElem (by omega)
  obtain ⟨_, _, h3, h4⟩ := h.one _ _ hx
  unfold fin
  rw [hx]
  show n ≤ (L[n - 1]'(by omega)).e ∧ (L[n - 1]'(by omega)).e ≤ L.length
  omega
theorem fin_nest {L : List En} (h : Nest 0 0 L) {n m : Nat} (h1 : 1 ≤ n) (hnm : n < m) (h2 : m ≤ L.length) : (m ≤ fin L n ↔ (n ≤ par L m ∧ par L m ≤ fin L n)) ∧ (m ≤ fin L n → fin L m ≤ fin L n) := by
  have hx : L[n - 1]? = some (L[n - 1]'(by omega)) := List.getElem?_eq_getElem (by omega)
  have hy : L[m - 1]? = some (L[m - 1]'(by omega)) := List.getElem?_eq_getElem (by omega)
  have := h.two (n - 1) (m - 1) _ _ (by omega) hx hy
  unfold fin par
  rw [hx, hy]
  show (m ≤ (L[n - 1]'(by omega)).e ↔ (n ≤ (L[m - 1]'(by omega)).p ∧ (L[m - 1]'(by omega)).p ≤ (L[n - 1]'(by omega)).e)) ∧ (m ≤ (L[n - 1]'(by omega)).e → (L[m - 1]'(by omega)).e ≤ (L[n - 1]'(by omega)).e)
  rw [show 0 + (m - 1) + 1 = m by omega, show 0 + (n - 1) + 1 = n by omega] at this
  exact this
/-- The root of a number. -/
def rootF (L : List En) : Nat → Nat → Nat
  | 0, _ => 0
  | f + 1, n => if n = 0 then 0 else if par L n = 0 then n else rootF L f (par L n)
theorem rootF_enough {L : List En} (h : Nest 0 0 L) : ∀ (f g n : Nat), n ≤ L.length → n ≤ f → n ≤ g → rootF L f n = rootF L g n
  | 0, 0, n, _, _, _ => rfl
  | 0, g + 1, n, _, h1, _ => by
    obtain rfl : n = 0 := by omega
    simp [rootF]
  | f + 1, 0, n, _, _, h2 => by
    obtain rfl : n = 0 := by omega
    simp [rootF]
  | f + 1, g + 1, n, hn, h1, h2 => by
    rw [rootF, rootF]
    by_cases h0 : n = 0
    · rw [if_pos h0, if_pos h0]
    · rw [if_neg h0, if_neg h0]
      by_cases hp : par L n = 0
      · rw [if_pos hp, if_pos hp]
      · rw [if_neg hp, if_neg hp]
        have := par_lt h (n := n) (by omega) hn
        exact rootF_enough h f g _ (by omega) (by omega) (by omega)
def rootOf (L : List En) (n : Nat) : Nat := rootF L L.length n
theorem root_zero {L : List En} (_h : Nest 0 0 L) {n : Nat} (h1 : 1 ≤ n) (h2 : n ≤ L.length) (hp : par L n = 0) : rootOf L n = n := by
  unfold rootOf
  obtain ⟨f, hf⟩ : ∃ f, L.length = f + 1 := ⟨L.length - 1, by omega⟩
  rw [hf, rootF, if_neg (by omega), if_pos hp]
theorem root_up {L : List En} (h : Nest 0 0 L) {n : Nat} (h1 : 1 ≤ n) (h2 : n ≤ L.length) (hp : par L n ≠ 0) : rootOf L n = rootOf L (par L n) := by
  unfold rootOf
  have := par_lt h h1 h2
  obtain ⟨f, hf⟩ : ∃ f, L.length = f + 1 := ⟨L.length - 1, by omega⟩
  rw [hf, rootF, if_neg (by omega), if_neg hp, ← hf]
  exact rootF_enough h _ _ _ (by omega) (by omega) (by omega)
end Go.Proofs.YtjpopmgnhgancaaDoor
namespace Go.Proofs.YtjpopmgnhgancaaDoor
open Go.RowKit Go.Lib
/-- A tree lies among nodes, behind b others. -/
def LaidAt (L : List En) (T : PT) (b p : Nat) : Prop := ∃ pre post, L = pre ++ (T.lay b p ++ post) ∧ pre.length = b
theorem LaidAt.at_ {L : List En} {T : PT} {b p : Nat} (h : LaidAt L T b p) {j : Nat} {x : En} (hx : (T.lay b p)[j]? = some x) : L[b + j]? = some x := by
  obtain ⟨pre, post, rfl, hl⟩ := h
  have hj := (List.getElem?_eq_some_iff.1 hx).1
  rw [List.getElem?_append_right (by omega), hl, show b + j - b = j by omega, List.getElem?_append_left hj]
  exact hx
theorem LaidAt.len {L : List En} {T : PT} {b p : Nat} (h : LaidAt L T b p) : b + T.size ≤ L.length := by
  obtain ⟨pre, post, rfl, hl⟩ := h
  rw [List.length_append, List.length_append, lay_len]; omega
theorem LaidAt.more {L M : List En} {T : PT} {b p : Nat} (h : LaidAt L T b p) : LaidAt (L ++ M) T b p := by
  obtain ⟨pre, post, rfl, hl⟩ := h
  exact ⟨pre, post ++ M, by simp, hl⟩
theorem LaidAt.last (L : List En) (T : PT) (p : Nat) : LaidAt (L ++ T.lay L.length p) T L.length p := ⟨L, [], by simp, rfl⟩
theorem lay_head (k : Int) (n v : List UInt8) (ps : List (List UInt8 × List UInt8)) (ks : List PT) (b p : Nat) :
    ((PT.mk k n v ps ks).lay b p)[0]? = some ⟨k, n, v, p, b + (1 + ps.length + sizeL ks)⟩ := by rw [PT.lay]; rfl
theorem lay_pair (k : Int) (n v : List UInt8) (ps : List (List UInt8 × List UInt8)) (ks : List PT) (b p : Nat) {q : Nat} {x : List UInt8 × List UInt8} (h : ps[q]? = some x) :
    ((PT.mk k n v ps ks).lay b p)[1 + q]? = some ⟨3, x.1, x.2, b + 1, b + 1 + q + 1⟩ := by
  have hq := (List.getElem?_eq_some_iff.1 h).1
  rw [PT.lay, show 1 + q = q + 1 by omega, List.getElem?_cons_succ, List.getElem?_append_left (by rw [layP_len]; exact hq)]
  have e := layP_app (ps.take (q + 1)) (ps.drop (q + 1)) (b + 1) (b + 1)
  rw [List.take_append_drop, layP_take ps q x h] at e
  have hl : (layP (ps.take q) (b + 1) (b + 1)).length = q := by rw [layP_len, List.length_take]; omega
  rw [e, List.append_assoc, List.getElem?_append_right (by omega), hl]
  simp
theorem lay_kid {L : List En} {k : Int} {n v : List UInt8} {ps : List (List UInt8 × List UInt8)} {ks : List PT} {b p : Nat} (h : LaidAt L (.mk k n v ps ks) b p) {j : Nat} {t : PT} (ht : ks[j]? = some t) :
    LaidAt L t (b + 1 + ps.length + sizeL (ks.take j)) (b + 1) := by
  obtain ⟨pre, post, rfl, hl⟩ := h
  have e := layL_app (ks.take (j + 1)) (ks.drop (j + 1)) (b + 1 + ps.length) (b + 1)
  rw [List.take_append_drop, layL_take ks j t ht] at e
  rw [PT.lay, e]
  refine ⟨pre ++ (⟨k, n, v, p, b + (1 + ps.length + sizeL ks)⟩ :: (layP ps (b + 1) (b + 1) ++ layL (ks.take j) (b + 1 + ps.length) (b + 1))), layL (ks.drop (j + 1)) (b + 1 + ps.length + sizeL (ks.take (j + 1))) (b + 1) ++ post, by simp, ?_⟩
  simp only [List.length_append, List.length_cons, layP_len, layL_len]
  omega
/-- The number of a part, and behind the last the number behind the tree. -/
def partM (b : Nat) (np : Nat) (ks : List PT) (q : Nat) : Nat := b + 2 + min q np + sizeL (ks.take (q - np))
theorem partM_pair {b np : Nat} {ks : List PT} {q : Nat} (h : q ≤ np) : partM b np ks q = b + 2 + q := by
  unfold partM
  rw [Nat.min_eq_left h, show q - np = 0 by omega, List.take_zero, sizeL, Nat.add_zero]
theorem partM_kid {b np : Nat} {ks : List PT} (j : Nat) : partM b np ks (np + j) = b + 2 + np + sizeL (ks.take j) := by
  unfold partM
  rw [Nat.min_eq_right (by omega), show np + j - np = j by omega]
theorem rightL_mem : ∀ {L : List PT} {d : Nat} {last : Int}, rightL L d last = true → ∀ t ∈ L, t.right d = true ∧ t.k ≠ 3
  | [], _, _, _, t, ht => nomatch ht
  | a :: L, d, last, h, t, ht => by
    rw [rightL] at h
    simp only [Bool.and_eq_true] at h
    rcases List.mem_cons.1 ht with rfl | ht
    · refine ⟨h.1.2, ?_⟩
      have := h.1.1
      unfold kidR at this
      simp at this
      omega
    · exact rightL_mem h.2 t ht
theorem right_kid {k : Int} {n v : List UInt8} {ps : List (List UInt8 × List UInt8)} {ks : List PT} {d : Nat} (h : (PT.mk k n v ps ks).right d = true) : k ≠ 0 ∧ ∀ t ∈ ks, t.right (d + 1) = true ∧ t.k ≠ 3 := by
  rw [PT.right] at h
  simp only [Bool.and_eq_true] at h
  exact ⟨right_knot0 h.1.2, rightL_mem h.2⟩
end Go.Proofs.YtjpopmgnhgancaaDoor
