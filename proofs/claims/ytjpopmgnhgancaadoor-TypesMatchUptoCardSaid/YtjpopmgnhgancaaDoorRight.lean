/- Right types, by the reference. No condition beyond what the theorems state. -/
import Derived.Test.YtjpopmgnhgancaaDoorCalls
import Derived.Test.YtjpopmgnhgancaaDoorValid
namespace Go.Proofs.YtjpopmgnhgancaaDoor
open Go.RowKit Go.Lib
set_option maxRecDepth 100000
set_option maxHeartbeats 8000000
def rightB (i : Int) (l : List UInt8) (o : Int) : Bool := decide (0 ≤ i ∧ i ≤ 13 ∧ 0 ≤ o ∧ o ≤ 3) && (decide (l = []) || (decide (i = 8 ∨ i = 9) && nameX l))
theorem right_ref (i o : Int) (l : List UInt8) (hs : l.length ≤ 1099511627776) (w : World) : Calls Tryd.prog 10 #[.agg #[.int .i64 i, .string (ba' l), .int .i64 o]] w fun e w' => e = .returned (.bool (rightB i l o)) ∧ Below w.heap.size w w' := by
  have HN : Hid (∀ w1, Below w.heap.size w w1 → Calls Tryd.prog 26 #[.string (ba' l)] w1 fun e w' => e = .returned (.bool (nameX l)) ∧ Below w1.heap.size w1 w') := Lib.hid fun w1 _ => name_ref (ba' l) w1 (by rw [size_ba]; exact hs)
  unfold rightB
  clear hs
  by_cases hr : 0 ≤ i ∧ i ≤ 13 ∧ 0 ≤ o ∧ o ≤ 3
  · rw [decide_eq_true hr, Bool.true_and]
    obtain ⟨h1, h2, h3, h4⟩ := hr
    have g1 : decide (i < 0) = false := by simp; omega
    have g2 : decide (13 < i) = false := by simp; omega
    have g3 : decide (o < 0) = false := by simp; omega
    have g4 : decide (3 < o) = false := by simp; omega
    by_cases hl : l = []
    · subst hl
      have g5 : (ba' []).toList.isEmpty = true := by rw [toList_ba]; rfl
      go_enter Tryd.func10, Tryd.ntmps10
      go_wp2
      go_ret
      exact ⟨by simp, (by repeat (with_reducible (first | exact Below.refl _ _ | assumption | apply ba | apply bd | apply bdr | (refine bs ?_ (by first | assumption | (simp; done) | (simp; omega))) | (refine bt ?_ (by assumption)))))⟩
    · rw [decide_eq_false hl, Bool.false_or]
      have g5 : (ba' l).toList.isEmpty = false := by rw [toList_ba]; simpa using hl
      by_cases h89 : i = 8 ∨ i = 9
      · rw [decide_eq_true h89, Bool.true_and]
        obtain ⟨b, hb⟩ : ∃ b, nameX l = b := ⟨_, rfl⟩
        rw [hb] at HN ⊢
        clear hb hl
        rcases h89 with rfl | rfl
        · go_enter Tryd.func10, Tryd.ntmps10
          go_wp2_with fail
          refine (HN.out _ (by repeat (with_reducible (first | exact Below.refl _ _ | assumption | apply ba | apply bd | apply bdr | (refine bs ?_ (by first | assumption | (simp; done) | (simp; omega))) | (refine bt ?_ (by assumption)))))).mono ?_
          rintro e w1 ⟨rfl, hb⟩
          go_wp2
          go_ret
          exact ⟨rfl, (by repeat (with_reducible (first | exact Below.refl _ _ | assumption | apply ba | apply bd | apply bdr | (refine bs ?_ (by first | assumption | (simp; done) | (simp; omega))) | (refine bt ?_ (by assumption)))))⟩
        · go_enter Tryd.func10, Tryd.ntmps10
          go_wp2_with fail
          refine (HN.out _ (by repeat (with_reducible (first | exact Below.refl _ _ | assumption | apply ba | apply bd | apply bdr | (refine bs ?_ (by first | assumption | (simp; done) | (simp; omega))) | (refine bt ?_ (by assumption)))))).mono ?_
          rintro e w1 ⟨rfl, hb⟩
          go_wp2
          go_ret
          exact ⟨rfl, (by repeat (with_reducible (first | exact Below.refl _ _ | assumption | apply ba | apply bd | apply bdr | (refine bs ?_ (by first | assumption | (simp; done) | (simp; omega))) | (refine bt ?_ (by assumption)))))⟩
      · rw [decide_eq_false h89, Bool.false_and]
        have g6 : (i == 8) = false := by simp; omega
        have g7 : (i == 9) = false := by simp; omega
        go_enter Tryd.func10, Tryd.ntmps10
        go_wp2
        go_ret
        exact ⟨rfl, (by repeat (with_reducible (first | exact Below.refl _ _ | assumption | apply ba | apply bd | apply bdr | (refine bs ?_ (by first | assumption | (simp; done) | (simp; omega))) | (refine bt ?_ (by assumption)))))⟩
  · rw [decide_eq_false hr, Bool.false_and]
    have hc : i < 0 ∨ (0 ≤ i ∧ 13 < i) ∨ (0 ≤ i ∧ i ≤ 13 ∧ o < 0) ∨ (0 ≤ i ∧ i ≤ 13 ∧ 0 ≤ o ∧ 3 < o) := by omega
    clear hr HN
    rcases hc with h | ⟨h, h'⟩ | ⟨h, h', h''⟩ | ⟨h, h', h'', h'''⟩
    · have g1 : decide (i < 0) = true := by simp; omega
      go_enter Tryd.func10, Tryd.ntmps10
      go_wp2
      go_ret
      exact ⟨rfl, (by repeat (with_reducible (first | exact Below.refl _ _ | assumption | apply ba | apply bd | apply bdr | (refine bs ?_ (by first | assumption | (simp; done) | (simp; omega))) | (refine bt ?_ (by assumption)))))⟩
    · have g1 : decide (i < 0) = false := by simp; omega
      have g2 : decide (13 < i) = true := by simp; omega
      go_enter Tryd.func10, Tryd.ntmps10
      go_wp2
      go_ret
      exact ⟨rfl, (by repeat (with_reducible (first | exact Below.refl _ _ | assumption | apply ba | apply bd | apply bdr | (refine bs ?_ (by first | assumption | (simp; done) | (simp; omega))) | (refine bt ?_ (by assumption)))))⟩
    · have g1 : decide (i < 0) = false := by simp; omega
      have g2 : decide (13 < i) = false := by simp; omega
      have g3 : decide (o < 0) = true := by simp; omega
      go_enter Tryd.func10, Tryd.ntmps10
      go_wp2
      go_ret
      exact ⟨rfl, (by repeat (with_reducible (first | exact Below.refl _ _ | assumption | apply ba | apply bd | apply bdr | (refine bs ?_ (by first | assumption | (simp; done) | (simp; omega))) | (refine bt ?_ (by assumption)))))⟩
    · have g1 : decide (i < 0) = false := by simp; omega
      have g2 : decide (13 < i) = false := by simp; omega
      have g3 : decide (o < 0) = false := by simp; omega
      have g4 : decide (3 < o) = true := by simp; omega
      go_enter Tryd.func10, Tryd.ntmps10
      go_wp2
      go_ret
      exact ⟨rfl, (by repeat (with_reducible (first | exact Below.refl _ _ | assumption | apply ba | apply bd | apply bdr | (refine bs ?_ (by first | assumption | (simp; done) | (simp; omega))) | (refine bt ?_ (by assumption)))))⟩
theorem right_gt {i o : Int} {l : List UInt8} (h : rightB i l o = true) : ∃ t : TT, GT t ∧ i = (t.k.i : Nat) ∧ l = t.k.n ∧ o = (t.o : Nat) := by
  unfold rightB at h
  rw [Bool.and_eq_true, Bool.or_eq_true, Bool.and_eq_true, decide_eq_true_eq, decide_eq_true_eq, decide_eq_true_eq] at h
  obtain ⟨⟨h1, h2, h3, h4⟩, h5⟩ := h
  refine ⟨⟨⟨i.toNat, l⟩, o.toNat⟩, ⟨⟨by simp only; omega, fun hn => ?_⟩, by simp only; omega⟩, by simp only; omega, rfl, by simp only; omega⟩
  rcases h5 with h | ⟨h, _⟩
  · exact absurd h hn
  · simp only; omega
end Go.Proofs.YtjpopmgnhgancaaDoor
