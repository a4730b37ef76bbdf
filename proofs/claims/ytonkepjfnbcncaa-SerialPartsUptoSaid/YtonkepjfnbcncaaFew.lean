/- The reference counts the nodes of trees. No condition beyond what the theorems state. -/
import Derived.Test.YtonkepjfnbcncaaTrees
import Derived.Deep.DeepMust
namespace Go.Proofs.Ytonkepjfnbcncaa
open Go.RowKit Go.Lib
set_option maxRecDepth 100000
set_option maxHeartbeats 4000000
theorem parts_any : ∀ (t : Tr) (P : Nat → Prop) (w : World) (left : Int), t.In P w → (∀ b, P b → b < w.heap.size) → t.pl.lens → 0 ≤ left → left ≤ 1099511627776 →
    Calls Try.prog 7 #[t.v, .int .i64 left] w fun e w' => e = .returned (.int .i64 (t.pl.parts left)) ∧ Below w.heap.size w w' := by
  intro t
  induction t using Tr.ind with
  | h k n v A ac ps K kc ks ih =>
    intro P w left hin hP hb h0 h1
    have hF := lens_fields hb
    have hkid : ∀ t ∈ ks, t.pl.lens := lens_kid hb
    have hps : ps.length ≤ 9223372036854775807 := hF.1
    have hks : ks.length ≤ 9223372036854775807 := hF.2
    rw [Tr.In] at hin
    obtain ⟨_, hK, hL⟩ := hin
    have HK := Lib.hid hK; have HL := Lib.hid hL; have HP := Lib.hid hP; have IH := Lib.hid ih; have HB := Lib.hid hkid
    rw [Tr.pl, PT.parts]
    obtain ⟨res, hres⟩ : ∃ res, partsL (plL ks) (left - 1 - (ps.length : Int)) = res := ⟨_, rfl⟩
    rw [hres]
    have HR := Lib.hid hres
    obtain ⟨np, hnp⟩ : ∃ np, ps.length = np := ⟨_, rfl⟩
    obtain ⟨nk, hnk⟩ : ∃ nk, ks.length = nk := ⟨_, rfl⟩
    have HNK := Lib.hid hnk
    have HNP := Lib.hid hnp
    rw [hnp] at hps
    rw [hnk] at hks
    show Calls Try.prog 7 #[.agg #[.int .i64 k, .string (ba' n), .string (ba' v), .slice A ps.length ac, .slice K ks.length kc], .int .i64 left] w _
    rw [hnp, hnk]
    clear hK hL hP ih hkid hres hnp hnk hF hb
    go_enter Try.func7, Try.ntmps7
    go_wp2
    go_loopw [1, 5] (fun s1 s5 wx => ∃ (i : Nat) (l : Int), s5 = .int .i64 i ∧ s1 = .int .i64 l ∧ i ≤ nk ∧ -9223372036854775808 ≤ l ∧ l ≤ 1099511627776 ∧ Hid (partsL ((plL ks).drop i) l = res) ∧ wx.cell? ⟨w.heap.size, 4, none⟩ = some (.slice K nk kc) ∧ w.heap.size < wx.heap.size ∧ Below w.heap.size w wx) (fun _ s5 _ => nk - (intOf s5).toNat)
    case atStart => 
      exact ⟨0, left - 1 - (np : Int), rfl, by go_num, by omega, by omega, by omega, Lib.hid (by rw [← HR.out, ← HNP.out]; rfl), by simp, by simp, ba (Below.refl _ _)⟩
    case round =>
      obtain ⟨i, l, rfl, rfl, hi, hl0, hl1, hrel, hc4, hsz, hBW⟩ := hrel
      have hbox : ∀ o, w.heap.size < wr.heap.size → o < 5 → True := fun _ _ _ => trivial
      clear hbox
      by_cases hlt : i < nk
      · by_cases hl : 0 ≤ l
        · have g0 : decide ((i : Int) < (nk : Int)) = true := by first | (simp; done) | (simp; omega)
          have g1 : decide (0 ≤ l) = true := by simpa using hl
          have g2 : decide (l ≥ 0) = true := by simpa using hl
          have hil : i < ks.length := by rw [HNK.out]; exact hlt
          obtain ⟨t, ht⟩ : ∃ t, ks[i]? = some t := ⟨_, List.getElem?_eq_getElem hil⟩
          have htm := List.mem_of_getElem? ht
          have hin' := (inL_iff.1 HL.out t htm).below HP.out hBW
          have hc := fun P w l => IH.out t htm P w l
          have hbk := HB.out t htm
          have hst : partsL ((plL ks).drop i) l = partsL ((plL ks).drop (i + 1)) (t.pl.parts l) := by rw [drop_at (plL_at ht), partsL, if_neg (by omega)]
          have hge := parts_low t.pl l hbk hl
          have hle := parts_le t.pl l
          obtain ⟨k', n', v', A', ac', ps', K', kc', ks'⟩ := t
          have hka := HK.out.below HP.out hBW
          rw [HNK.out] at hka
          obtain ⟨ad, rfl, hPad, d0, d1, d2, d3, d4⟩ := kid_at hka ht hlt
          have hb0 : (ad.add (i * 5)).block < wr.heap.size := by rw [block_of_add]; exact Nat.lt_of_lt_of_le (HP.out _ hPad) hBW.size
          have HC := Lib.hid (fun w1 hb1 => hc P w1 l (hin'.below (fun b hb => Nat.lt_of_lt_of_le (HP.out b hb) hBW.size) hb1) (fun b hb => Nat.lt_of_lt_of_le (Nat.lt_of_lt_of_le (HP.out b hb) hBW.size) hb1.size) hbk hl hl1)
          obtain ⟨l2, hl2⟩ : ∃ l2, (Tr.mk k' n' v' A' ac' ps' K' kc' ks').pl.parts l = l2 := ⟨_, rfl⟩
          rw [hl2] at HC hst hge hle
          have HS := Lib.hid (hst.symm.trans hrel.out)
          obtain ⟨np', hnp'⟩ : ∃ q, ps'.length = q := ⟨_, rfl⟩
          obtain ⟨nk', hnk'⟩ : ∃ q, ks'.length = q := ⟨_, rfl⟩
          simp only [Tr.v] at HC
          rw [hnp', hnk'] at HC
          rw [hnp'] at d3
          rw [hnk'] at d4
          clear hst hrel hc hin' hka hl2 ht htm hil hnp' hnk'
          go_wp2_with (go_at_call 7; go_must (refine (HC.out _ (Below.refl _ _)).mono ?_); rintro e w1 ⟨rfl, hb1⟩; have hc1 := fun o => (bcell hb1).1 w.heap.size o (by first | (simp; done) | assumption | (simp; omega)))
          go_roundw
          case rel => exact ⟨i + 1, l2, by go_num, rfl, by omega, by omega, by omega, HS, by simp [*], Nat.lt_of_lt_of_le hsz hb1.size, by repeat (with_reducible (first | exact Below.refl _ _ | assumption | apply ba | apply bd | apply bdr | (refine bs ?_ (by first | assumption | (simp; done) | (simp; omega))) | (refine bt ?_ (by assumption))))⟩
          case measure => simp [intOf]; omega
        · have g0 : decide ((i : Int) < (nk : Int)) = true := by first | (simp; done) | (simp; omega)
          have g1 : decide (0 ≤ l) = false := by simpa using hl
          have g2 : decide (l ≥ 0) = false := by simpa using hl
          have hr : l = res := by rw [← hrel.out, partsL_neg _ (by omega)]
          subst hr
          go_wp2
          go_ret
          exact ⟨rfl, by repeat (with_reducible (first | exact Below.refl _ _ | assumption | apply ba | apply bd | apply bdr | (refine bs ?_ (by first | assumption | (simp; done) | (simp; omega))) | (refine bt ?_ (by assumption))))⟩
      · obtain rfl : i = nk := by omega
        have g0 : decide (((i : Nat) : Int) < ((i : Nat) : Int)) = false := by simp
        have hr : l = res := by
          have := hrel.out
          rw [List.drop_eq_nil_of_le (by rw [plL_len, HNK.out]; exact Nat.le_refl _), partsL] at this
          exact this
        subst hr
        go_wp2
        go_ret
        exact ⟨rfl, by repeat (with_reducible (first | exact Below.refl _ _ | assumption | apply ba | apply bd | apply bdr | (refine bs ?_ (by first | assumption | (simp; done) | (simp; omega))) | (refine bt ?_ (by assumption))))⟩
end Go.Proofs.Ytonkepjfnbcncaa
namespace Go.Proofs.Ytonkepjfnbcncaa
open Go.RowKit Go.Lib
set_option maxRecDepth 100000
set_option maxHeartbeats 8000000
theorem few_row (A : Option Addr) (n c : Nat) (us : List Tr) (w : World) (hR : RdP (fun b => b < w.heap.size) w 5 A n (rowT us)) (hn : us.length = n) (hI : InL (fun b => b < w.heap.size) w us) (hl : ∀ t ∈ us, t.pl.lens) (hn6 : n ≤ 1048576) :
    Calls Try.prog 5 #[.int .i64 2000, .slice A n c] w fun e w' => ∃ f : Bool, e = .returned (.bool f) ∧ Below w.heap.size w w' := by
  have HR := Lib.hid hR; have HN := Lib.hid hn; have HI := Lib.hid hI; have HL := Lib.hid hl
  clear hR hn hI hl
  go_enter Try.func5, Try.ntmps5
  go_wp2
  go_loopw [5, 6] (fun s5 s6 wx => ∃ (i : Nat) (l : Int), s6 = .int .i64 (i : Int) ∧ s5 = .int .i64 l ∧ i ≤ n ∧ -9223372036854775808 ≤ l ∧ l ≤ 1099511627776 ∧ Below w.heap.size w wx) (fun _ s6 _ => n - (RowKit.intOf s6).toNat)
  case atStart => exact ⟨0, 2000, rfl, rfl, by omega, by omega, by omega, Below.refl _ _⟩
  case round =>
    obtain ⟨i, l, rfl, rfl, hi, hl0, hl1, hB⟩ := hrel
    by_cases hlt : i < n
    · have g0 : decide ((i : Int) < (n : Int)) = true := by simp; omega
      have g0' : decide (i < n) = true := by simpa using hlt
      by_cases hl : 0 ≤ l
      · have g1 : decide (0 ≤ l) = true := by simpa using hl
        have g2 : decide (l ≥ 0) = true := by simpa using hl
        have hil : i < us.length := by rw [HN.out]; exact hlt
        obtain ⟨t, ht⟩ : ∃ t, us[i]? = some t := ⟨_, List.getElem?_eq_getElem hil⟩
        have htm := List.mem_of_getElem? ht
        have hin := (inL_iff.1 HI.out t htm).below (fun _ h => h) hB
        have hlen := HL.out t htm
        have hC := parts_any t _ wr l hin (fun b hb => Nat.lt_of_lt_of_le hb hB.size) hlen hl hl1
        have hge := parts_low t.pl l hlen hl
        have hle := parts_le t.pl l
        obtain ⟨l2, hl2⟩ : ∃ l2, t.pl.parts l = l2 := ⟨_, rfl⟩
        rw [hl2] at hC hge hle
        have hka := HR.out.below (fun _ h => h) hB
        obtain ⟨k', n', v', A', ac', ps', K', kc', ks'⟩ := t
        obtain ⟨ad, rfl, hPad, d0, d1, d2, d3, d4⟩ := kid_at hka ht hlt
        have hb0 : (ad.add (i * 5)).block < wr.heap.size := by rw [block_of_add]; exact Nat.lt_of_lt_of_le hPad hB.size
        obtain ⟨np', hnp'⟩ : ∃ q, ps'.length = q := ⟨_, rfl⟩
        obtain ⟨nk', hnk'⟩ : ∃ q, ks'.length = q := ⟨_, rfl⟩
        simp only [Tr.v] at hC
        rw [hnp', hnk'] at hC
        rw [hnp'] at d3
        rw [hnk'] at d4
        have HC := Lib.hid hC
        clear hC hka hin ht htm hil hlen hl2 hnp' hnk'
        go_wp2_with fail
        refine HC.out.mono ?_
        rintro e w1 ⟨rfl, hb1⟩
        have HB1 := Lib.hid (bt hB hb1)
        clear hb1 HC d0 d1 d2 d3 d4
        go_wp2
        go_roundw
        case rel => exact ⟨i + 1, l2, by go_num, rfl, by omega, by omega, by omega, HB1.out⟩
        case measure => simp [RowKit.intOf]; omega
      · have g1 : decide (0 ≤ l) = false := by simpa using hl
        have g2 : decide (l ≥ 0) = false := by simpa using hl
        go_wp2
        go_ret
        first | exact ⟨_, rfl, hB⟩ | exact ⟨.inl rfl, hB⟩ | exact ⟨.inr rfl, hB⟩
    · obtain rfl : i = n := by omega
      have g0 : decide ((i : Int) < (i : Int)) = false := by simp
      go_wp2
      go_ret
      first | exact ⟨_, rfl, hB⟩ | exact ⟨.inl rfl, hB⟩ | exact ⟨.inr rfl, hB⟩
end Go.Proofs.Ytonkepjfnbcncaa
