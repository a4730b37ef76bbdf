/- Small words of the reference; kinds joined. No condition beyond what the theorems state. -/
import Derived.Test.YtjpopmgnhgancaaDoorKdA
import Derived.Deep.DeepMust
import Derived.Test.YtjpopmgnhgancaaDoorTypes
namespace Go.Proofs.YtjpopmgnhgancaaDoor
open Go.RowKit Go.Lib
set_option maxRecDepth 100000
set_option maxHeartbeats 4000000
theorem parts_any : ∀ (t : Tr) (P : Nat → Prop) (w : World) (left : Int), t.In P w → (∀ b, P b → b < w.heap.size) → t.pl.lens → 0 ≤ left → left ≤ 1099511627776 →
    Calls Tryd.prog 54 #[t.v, .int .i64 left] w fun e w' => e = .returned (.int .i64 (t.pl.parts left)) ∧ Below w.heap.size w w' := by
  intro t
  induction t using Tr.ind with
  | h k n v A ac ps K kc ks ih =>
    intro P w left hin hP hb h0 h1
    have hF := lens_fields hb
    have hkid : ∀ t ∈ ks, t.pl.lens := lens_kid hb
    have hps : ps.length ≤ 9223372036854775807 := hF.1
    have hks : ks.length ≤ 9223372036854775807 := hF.2
    rw [Tr.In] at hin
    obtain ⟨_, hK, hL⟩ := hin
    have HK := Lib.hid hK; have HL := Lib.hid hL; have HP := Lib.hid hP; have IH := Lib.hid ih; have HB := Lib.hid hkid
    rw [Tr.pl, PT.parts]
    obtain ⟨res, hres⟩ : ∃ res, partsL (plL ks) (left - 1 - (ps.length : Int)) = res := ⟨_, rfl⟩
    rw [hres]
    have HR := Lib.hid hres
    obtain ⟨np, hnp⟩ : ∃ np, ps.length = np := ⟨_, rfl⟩
    obtain ⟨nk, hnk⟩ : ∃ nk, ks.length = nk := ⟨_, rfl⟩
    have HNK := Lib.hid hnk
    have HNP := Lib.hid hnp
    rw [hnp] at hps
    rw [hnk] at hks
    show Calls Tryd.prog 54 #[.agg #[.int .i64 k, .string (ba' n), .string (ba' v), .slice A ps.length ac, .slice K ks.length kc], .int .i64 left] w _
    rw [hnp, hnk]
    clear hK hL hP ih hkid hres hnp hnk hF hb
    go_enter Tryd.func54, Tryd.ntmps54
    go_wp2
    go_loopw [1, 5] (fun s1 s5 wx => ∃ (i : Nat) (l : Int), s5 = .int .i64 i ∧ s1 = .int .i64 l ∧ i ≤ nk ∧ -9223372036854775808 ≤ l ∧ l ≤ 1099511627776 ∧ Hid (partsL ((plL ks).drop i) l = res) ∧ wx.cell? ⟨w.heap.size, 4, none⟩ = some (.slice K nk kc) ∧ w.heap.size < wx.heap.size ∧ Below w.heap.size w wx) (fun _ s5 _ => nk - (intOf s5).toNat)
    case atStart => 
      exact ⟨0, left - 1 - (np : Int), rfl, by go_num, by omega, by omega, by omega, Lib.hid (by rw [← HR.out, ← HNP.out]; rfl), by simp, by simp, ba (Below.refl _ _)⟩
    case round =>
      obtain ⟨i, l, rfl, rfl, hi, hl0, hl1, hrel, hc4, hsz, hBW⟩ := hrel
      have hbox : ∀ o, w.heap.size < wr.heap.size → o < 5 → True := fun _ _ _ => trivial
      clear hbox
      by_cases hlt : i < nk
      · by_cases hl : 0 ≤ l
        · have g0 : decide ((i : Int) < (nk : Int)) = true := by first | (simp; done) | (simp; omega)
          have g1 : decide (0 ≤ l) = true := by simpa using hl
          have g2 : decide (l ≥ 0) = true := by simpa using hl
          have hil : i < ks.length := by rw [HNK.out]; exact hlt
          obtain ⟨t, ht⟩ : ∃ t, ks[i]? = some t := ⟨_, List.getElem?_eq_getElem hil⟩
          have htm := List.mem_of_getElem? ht
          have hin' := (inL_iff.1 HL.out t htm).below HP.out hBW
          have hc := fun P w l => IH.out t htm P w l
          have hbk := HB.out t htm
          have hst : partsL ((plL ks).drop i) l = partsL ((plL ks).drop (i + 1)) (t.pl.parts l) := by rw [drop_at (plL_at ht), partsL, if_neg (by omega)]
          have hge := parts_low t.pl l hbk hl
          have hle := parts_le t.pl l
          obtain ⟨k', n', v', A', ac', ps', K', kc', ks'⟩ := t
          have hka := HK.out.below HP.out hBW
          rw [HNK.out] at hka
          obtain ⟨ad, rfl, hPad, d0, d1, d2, d3, d4⟩ := kid_at hka ht hlt
          have hb0 : (ad.add (i * 5)).block < wr.heap.size := by rw [block_of_add]; exact Nat.lt_of_lt_of_le (HP.out _ hPad) hBW.size
          have HC := Lib.hid (fun w1 hb1 => hc P w1 l (hin'.below (fun b hb => Nat.lt_of_lt_of_le (HP.out b hb) hBW.size) hb1) (fun b hb => Nat.lt_of_lt_of_le (Nat.lt_of_lt_of_le (HP.out b hb) hBW.size) hb1.size) hbk hl hl1)
          obtain ⟨l2, hl2⟩ : ∃ l2, (Tr.mk k' n' v' A' ac' ps' K' kc' ks').pl.parts l = l2 := ⟨_, rfl⟩
          rw [hl2] at HC hst hge hle
          have HS := Lib.hid (hst.symm.trans hrel.out)
          obtain ⟨np', hnp'⟩ : ∃ q, ps'.length = q := ⟨_, rfl⟩
          obtain ⟨nk', hnk'⟩ : ∃ q, ks'.length = q := ⟨_, rfl⟩
          simp only [Tr.v] at HC
          rw [hnp', hnk'] at HC
          rw [hnp'] at d3
          rw [hnk'] at d4
          clear hst hrel hc hin' hka hl2 ht htm hil hnp' hnk'
          go_wp2_with (go_at_call 54; go_must (refine (HC.out _ (Below.refl _ _)).mono ?_); rintro e w1 ⟨rfl, hb1⟩; have hc1 := fun o => (bcell hb1).1 w.heap.size o (by first | (simp; done) | assumption | (simp; omega)))
          go_roundw
          case rel => exact ⟨i + 1, l2, by go_num, rfl, by omega, by omega, by omega, HS, by simp [*], Nat.lt_of_lt_of_le hsz hb1.size, by repeat (with_reducible (first | exact Below.refl _ _ | assumption | apply ba | apply bd | apply bdr | (refine bs ?_ (by first | assumption | (simp; done) | (simp; omega))) | (refine bt ?_ (by assumption))))⟩
          case measure => simp [intOf]; omega
        · have g0 : decide ((i : Int) < (nk : Int)) = true := by first | (simp; done) | (simp; omega)
          have g1 : decide (0 ≤ l) = false := by simpa using hl
          have g2 : decide (l ≥ 0) = false := by simpa using hl
          have hr : l = res := by rw [← hrel.out, partsL_neg _ (by omega)]
          subst hr
          go_wp2
          go_ret
          exact ⟨rfl, by repeat (with_reducible (first | exact Below.refl _ _ | assumption | apply ba | apply bd | apply bdr | (refine bs ?_ (by first | assumption | (simp; done) | (simp; omega))) | (refine bt ?_ (by assumption))))⟩
      · obtain rfl : i = nk := by omega
        have g0 : decide (((i : Nat) : Int) < ((i : Nat) : Int)) = false := by simp
        have hr : l = res := by
          have := hrel.out
          rw [List.drop_eq_nil_of_le (by rw [plL_len, HNK.out]; exact Nat.le_refl _), partsL] at this
          exact this
        subst hr
        go_wp2
        go_ret
        exact ⟨rfl, by repeat (with_reducible (first | exact Below.refl _ _ | assumption | apply ba | apply bd | apply bdr | (refine bs ?_ (by first | assumption | (simp; done) | (simp; omega))) | (refine bt ?_ (by assumption))))⟩
end Go.Proofs.YtjpopmgnhgancaaDoor
namespace Go.Proofs.YtjpopmgnhgancaaDoor
open Go.RowKit Go.Lib
set_option maxRecDepth 100000
set_option maxHeartbeats 4000000
theorem few_one (k : Int) (n v : List UInt8) (A : Option Addr) (ac : Nat) (ps : List (List UInt8 × List UInt8)) (K : Option Addr) (kc : Nat) (ks : List Tr) (P : Nat → Prop) (w : World) (most : Nat) (g cap : Nat) (hin : (Tr.mk k n v A ac ps K kc ks).In P w) (hP : ∀ b, P b → b < w.heap.size)
    (hb : (Tr.mk k n v A ac ps K kc ks).pl.lens) (hm : most ≤ 1099511627776) (hg : g < w.heap.size) (h0 : w.cell? ⟨g, 0, none⟩ = some (.int .i64 k)) (h1 : w.cell? ⟨g, 1, none⟩ = some (.string (ba' n))) (h2 : w.cell? ⟨g, 2, none⟩ = some (.string (ba' v))) (h3 : w.cell? ⟨g, 3, none⟩ = some (.slice A ps.length ac)) (h4 : w.cell? ⟨g, 4, none⟩ = some (.slice K ks.length kc)) :
    Calls Tryd.prog 28 #[.int .i64 (most : Int), .slice (some ⟨g, 0, none⟩) 1 cap] w fun e w' => e = .returned (.bool (decide ((Tr.mk k n v A ac ps K kc ks).pl.size ≤ most))) ∧ Below w.heap.size w w' := by
  have HF := Lib.hid (few_iff (Tr.mk k n v A ac ps K kc ks).pl most)
  have hle := parts_le (Tr.mk k n v A ac ps K kc ks).pl (most : Int)
  have hge := parts_low (Tr.mk k n v A ac ps K kc ks).pl (most : Int) hb (by omega)
  have HC := Lib.hid (fun w1 hb1 => parts_any (Tr.mk k n v A ac ps K kc ks) P w1 (most : Int) (hin.below hP hb1) (fun b h => Nat.lt_of_lt_of_le (hP b h) (Below.size hb1)) hb (by omega) (by omega))
  obtain ⟨l2, hl2⟩ : ∃ l2, (Tr.mk k n v A ac ps K kc ks).pl.parts (most : Int) = l2 := ⟨_, rfl⟩
  rw [hl2] at HC HF hle hge
  obtain ⟨res, hres⟩ : ∃ res, decide ((Tr.mk k n v A ac ps K kc ks).pl.size ≤ most) = res := ⟨_, rfl⟩
  rw [hres]
  have hr : decide (0 ≤ l2) = res := by rw [← hres]; exact decide_eq_decide.2 HF.out
  have hr2 : decide (l2 ≥ 0) = res := hr
  simp only [Tr.v] at HC
  obtain ⟨np, hnp⟩ : ∃ q, ps.length = q := ⟨_, rfl⟩
  obtain ⟨nk, hnk⟩ : ∃ q, ks.length = q := ⟨_, rfl⟩
  rw [hnp, hnk] at HC
  rw [hnp] at h3
  rw [hnk] at h4
  have HR := Lib.hid hr
  have gm : decide (0 ≤ (most : Int)) = true := by simp
  clear hin hl2 hres hnp hnk hb HF
  go_enter Tryd.func28, Tryd.ntmps28
  go_wp2
  go_loopw [5, 6] (fun s5 s6 wx => ∃ i : Nat, s6 = .int .i64 i ∧ i ≤ 1 ∧ (i = 0 → s5 = .int .i64 (most : Int)) ∧ (i = 1 → s5 = .int .i64 l2) ∧ Below w.heap.size w wx) (fun _ s6 _ => 1 - (intOf s6).toNat)
  case atStart => exact ⟨0, rfl, by omega, fun _ => rfl, fun h => absurd h (by decide), by repeat (with_reducible (first | exact Below.refl _ _ | assumption | apply ba | apply bd | apply bdr | (refine bs ?_ (by first | assumption | (simp; done) | (simp; omega))) | (refine bt ?_ (by assumption))))⟩
  case round =>
    obtain ⟨i, rfl, hi, e0, e1, hB⟩ := hrel
    have d0 := (hB.cell (p := ⟨g, 0, none⟩) hg).trans h0
    have d1 := (hB.cell (p := ⟨g, 1, none⟩) hg).trans h1
    have d2 := (hB.cell (p := ⟨g, 2, none⟩) hg).trans h2
    have d3 := (hB.cell (p := ⟨g, 3, none⟩) hg).trans h3
    have d4 := (hB.cell (p := ⟨g, 4, none⟩) hg).trans h4
    clear h0 h1 h2 h3 h4
    rcases (by omega : i = 0 ∨ i = 1) with rfl | rfl
    · obtain rfl := e0 rfl
      clear e0 e1
      go_wp2_with (go_at_call 54; go_must (refine (HC.out _ (by repeat (with_reducible (first | exact Below.refl _ _ | assumption | apply ba | apply bd | apply bdr | (refine bs ?_ (by first | assumption | (simp; done) | (simp; omega))) | (refine bt ?_ (by assumption)))))).mono ?_); rintro e w1 ⟨rfl, hb1⟩)
      go_roundw
      case rel => exact ⟨1, rfl, by omega, fun h => absurd h (by decide), fun _ => rfl, by repeat (with_reducible (first | exact Below.refl _ _ | assumption | apply ba | apply bd | apply bdr | (refine bs ?_ (by first | assumption | (simp; done) | (simp; omega))) | (refine bt ?_ (by assumption))))⟩
      case measure => simp [intOf]
    · obtain rfl := e1 rfl
      clear e0 e1
      go_wp2
      go_ret
      exact ⟨by first | rfl | (rw [← HR.out]; simp; done) | (rw [← HR.out]), by repeat (with_reducible (first | exact Below.refl _ _ | assumption | apply ba | apply bd | apply bdr | (refine bs ?_ (by first | assumption | (simp; done) | (simp; omega))) | (refine bt ?_ (by assumption))))⟩
end Go.Proofs.YtjpopmgnhgancaaDoor
namespace Go.Proofs.YtjpopmgnhgancaaDoor
def allF (ks : List TT) (a : TT) : TT := ks.foldl (fun a k => joinT [a, k]) a
theorem allF_snoc (ks : List TT) (a k : TT) : allF (ks ++ [k]) a = joinT [allF ks a, k] := by
  unfold allF; rw [List.foldl_append]; rfl
/-- A kind as an item has it: One, and not of no items. -/
def OneK (k : TT) : Prop := GT k ∧ k.o = 0 ∧ k.k.i ≠ 0
theorem cT_one {k : TT} (h : OneK k) : cT k = (1, 1) := by
  rw [cT, zT, h.2.1, decide_eq_false h.2.2]; rfl
theorem allF_is : ∀ (n : Nat) (ks : List TT), ks.length = n → (∀ k ∈ ks, OneK k) → GT (allF ks emptyT) ∧ (∀ k ∈ ks, lieB k.k (allF ks emptyT).k = true) ∧ cT (allF ks emptyT) = (if n = 0 then (0, 0) else if n = 1 then (1, 1) else (1, 2)) ∧ (n ≠ 0 → (allF ks emptyT).k.i ≠ 0) := by
  intro n
  induction n with
  | zero =>
    intro ks hl _
    obtain rfl : ks = [] := List.length_eq_zero_iff.1 hl
    exact ⟨⟨⟨by decide, fun h => absurd rfl h⟩, by decide⟩, fun k hk => (by cases hk), rfl, fun h => absurd rfl h⟩
  | succ n ih =>
    intro ks hl hk
    have hne0 : ks ≠ [] := by intro h; rw [h] at hl; simp at hl
    obtain ⟨L, x, rfl⟩ : ∃ L x, ks = L ++ [x] := ⟨ks.dropLast, ks.getLast hne0, (List.dropLast_concat_getLast hne0).symm⟩
    have hlL : L.length = n := by simpa using hl
    have hx := hk x (List.mem_append_right _ (List.mem_singleton.2 rfl))
    obtain ⟨g1, g2, g3, g4⟩ := ih L hlL (fun k h => hk k (List.mem_append_left _ h))
    rw [allF_snoc]
    have hj := join2 (allF L emptyT) x
    have hgk := with_gk g1.1 hx.1.1
    have hne : (withK (allF L emptyT).k x.k).i ≠ 0 := fun h => hx.2.2 ((with_zero g1.1 hx.1.1).1 h).2
    refine ⟨by rw [hj]; exact gt_made hgk, fun k hkm => ?_, ?_, fun _ => by rw [hj, k_made hgk]; exact hne⟩
    · rw [hj, k_made hgk]
      rcases List.mem_append.1 hkm with h | h
      · have hg := (hk k (List.mem_append_left _ h)).1.1
        exact (lieB_is hg).2 (lie_trans ((lieB_is hg).1 (g2 k h)) (with_left g1.1 hx.1.1))
      · rw [List.mem_singleton.1 h]
        exact (lieB_is hx.1.1).2 (with_right g1.1 hx.1.1)
    · rw [hj, c_made, decide_eq_false hne, g3, cT_one hx]
      by_cases h0 : n = 0
      · subst h0; rfl
      · by_cases h1 : n = 1
        · subst h1; rfl
        · rw [if_neg h0, if_neg h1, if_neg (by omega), if_neg (by omega)]; rfl
theorem match_all (ks : List TT) (h : ∀ k ∈ ks, OneK k) : inC (min ks.length 2, min ks.length 2) (cT (allF ks emptyT)) = true := by
  rw [(allF_is _ ks rfl h).2.2.1]
  by_cases h0 : ks.length = 0
  · rw [if_pos h0, h0]; rfl
  · by_cases h1 : ks.length = 1
    · rw [if_neg h0, if_pos h1, h1]; rfl
    · rw [if_neg h0, if_neg h1, show min ks.length 2 = 2 by omega]; rfl
end Go.Proofs.YtjpopmgnhgancaaDoor
