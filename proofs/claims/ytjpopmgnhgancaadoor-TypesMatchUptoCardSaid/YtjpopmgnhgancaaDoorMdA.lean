/- Right types, by the program. No condition beyond what the theorems state. -/
import Derived.Test.YtjpopmgnhgancaaDoorRight
import Derived.Test.YtjpopmgnhgancaaDoorKdB
namespace Go.Proofs.YtjpopmgnhgancaaDoor
open Go.RowKit Go.Lib
set_option maxRecDepth 100000
set_option maxHeartbeats 8000000
theorem right_prog (i o : Int) (l : List UInt8) (hs : l.length ≤ 1099511627776) (w : World) (hT : tabs w) : Calls Tryd.prog 25 #[.agg #[.int .i64 i, .string (ba' l), .int .i64 o]] w fun e w' => e = .returned (.bool (rightB i l o)) ∧ Below w.heap.size w w' := by
  have HN : Hid (∀ w1, Below w.heap.size w w1 → Calls Tryd.prog 51 #[.string (ba' l)] w1 fun e w' => e = .returned (.bool (nameX l)) ∧ Below w1.heap.size w1 w') := Lib.hid fun w1 h1 => name_any (ba' l) w1 (by rw [size_ba]; unfold maxLen; omega) (Utf8Tabs_below hT h1)
  unfold rightB
  clear hs hT
  by_cases hr : 0 ≤ i ∧ i ≤ 13 ∧ 0 ≤ o ∧ o ≤ 3
  · rw [decide_eq_true hr, Bool.true_and]
    obtain ⟨h1, h2, h3, h4⟩ := hr
    have g1 : decide (i < 0) = false := by simp; omega
    have g2 : decide (13 < i) = false := by simp; omega
    have g3 : decide (o < 0) = false := by simp; omega
    have g4 : decide (3 < o) = false := by simp; omega
    by_cases hl : l = []
    · subst hl
      have g5 : (ba' []).toList.isEmpty = true := by rw [toList_ba]; rfl
      by_cases h8 : i = 8
      · subst h8
        go_enter Tryd.func25, Tryd.ntmps25
        go_wp2
        go_ret
        exact ⟨by simp, (by repeat (with_reducible (first | exact Below.refl _ _ | assumption | apply ba | apply bd | apply bdr | (refine bs ?_ (by first | assumption | (simp; done) | (simp; omega))) | (refine bt ?_ (by assumption)))))⟩
      · have k8 : (i == 8) = false := by simpa using h8
        by_cases h9 : i = 9
        · subst h9
          go_enter Tryd.func25, Tryd.ntmps25
          go_wp2
          go_ret
          exact ⟨by simp, (by repeat (with_reducible (first | exact Below.refl _ _ | assumption | apply ba | apply bd | apply bdr | (refine bs ?_ (by first | assumption | (simp; done) | (simp; omega))) | (refine bt ?_ (by assumption)))))⟩
        · have k9 : (i == 9) = false := by simpa using h9
          go_enter Tryd.func25, Tryd.ntmps25
          go_wp2
          go_ret
          exact ⟨by simp, (by repeat (with_reducible (first | exact Below.refl _ _ | assumption | apply ba | apply bd | apply bdr | (refine bs ?_ (by first | assumption | (simp; done) | (simp; omega))) | (refine bt ?_ (by assumption)))))⟩
    · rw [decide_eq_false hl, Bool.false_or]
      have g5 : (ba' l).toList.isEmpty = false := by rw [toList_ba]; simpa using hl
      by_cases h8 : i = 8
      · subst h8
        rw [decide_eq_true (show (8 : Int) = 8 ∨ (8 : Int) = 9 by omega), Bool.true_and]
        go_enter Tryd.func25, Tryd.ntmps25
        go_wp2_with fail
        refine (HN.out _ (by repeat (with_reducible (first | exact Below.refl _ _ | assumption | apply ba | apply bd | apply bdr | (refine bs ?_ (by first | assumption | (simp; done) | (simp; omega))) | (refine bt ?_ (by assumption)))))).mono ?_
        rintro e w1 ⟨rfl, hb1⟩
        go_wp2
        go_ret
        exact ⟨rfl, (by repeat (with_reducible (first | exact Below.refl _ _ | assumption | apply ba | apply bd | apply bdr | (refine bs ?_ (by first | assumption | (simp; done) | (simp; omega))) | (refine bt ?_ (by assumption)))))⟩
      · have k8 : (i == 8) = false := by simpa using h8
        by_cases h9 : i = 9
        · subst h9
          rw [decide_eq_true (show (9 : Int) = 8 ∨ (9 : Int) = 9 by omega), Bool.true_and]
          go_enter Tryd.func25, Tryd.ntmps25
          go_wp2_with fail
          refine (HN.out _ (by repeat (with_reducible (first | exact Below.refl _ _ | assumption | apply ba | apply bd | apply bdr | (refine bs ?_ (by first | assumption | (simp; done) | (simp; omega))) | (refine bt ?_ (by assumption)))))).mono ?_
          rintro e w1 ⟨rfl, hb1⟩
          go_wp2
          go_ret
          exact ⟨rfl, (by repeat (with_reducible (first | exact Below.refl _ _ | assumption | apply ba | apply bd | apply bdr | (refine bs ?_ (by first | assumption | (simp; done) | (simp; omega))) | (refine bt ?_ (by assumption)))))⟩
        · have k9 : (i == 9) = false := by simpa using h9
          rw [decide_eq_false (show ¬ (i = 8 ∨ i = 9) by omega), Bool.false_and]
          go_enter Tryd.func25, Tryd.ntmps25
          go_wp2
          go_ret
          exact ⟨rfl, (by repeat (with_reducible (first | exact Below.refl _ _ | assumption | apply ba | apply bd | apply bdr | (refine bs ?_ (by first | assumption | (simp; done) | (simp; omega))) | (refine bt ?_ (by assumption)))))⟩
  · rw [decide_eq_false hr, Bool.false_and]
    by_cases a1 : i < 0
    · have g1 : decide (i < 0) = true := by simpa using a1
      go_enter Tryd.func25, Tryd.ntmps25
      go_wp2
      go_ret
      exact ⟨rfl, (by repeat (with_reducible (first | exact Below.refl _ _ | assumption | apply ba | apply bd | apply bdr | (refine bs ?_ (by first | assumption | (simp; done) | (simp; omega))) | (refine bt ?_ (by assumption)))))⟩
    · have g1 : decide (i < 0) = false := by simpa using a1
      by_cases a2 : 13 < i
      · have g2 : decide (13 < i) = true := by simpa using a2
        go_enter Tryd.func25, Tryd.ntmps25
        go_wp2
        go_ret
        exact ⟨rfl, (by repeat (with_reducible (first | exact Below.refl _ _ | assumption | apply ba | apply bd | apply bdr | (refine bs ?_ (by first | assumption | (simp; done) | (simp; omega))) | (refine bt ?_ (by assumption)))))⟩
      · have g2 : decide (13 < i) = false := by simpa using a2
        by_cases a3 : o < 0
        · have g3 : decide (o < 0) = true := by simpa using a3
          go_enter Tryd.func25, Tryd.ntmps25
          go_wp2
          go_ret
          exact ⟨rfl, (by repeat (with_reducible (first | exact Below.refl _ _ | assumption | apply ba | apply bd | apply bdr | (refine bs ?_ (by first | assumption | (simp; done) | (simp; omega))) | (refine bt ?_ (by assumption)))))⟩
        · have g3 : decide (o < 0) = false := by simpa using a3
          have g4 : decide (3 < o) = true := by simp; omega
          go_enter Tryd.func25, Tryd.ntmps25
          go_wp2
          go_ret
          exact ⟨rfl, (by repeat (with_reducible (first | exact Below.refl _ _ | assumption | apply ba | apply bd | apply bdr | (refine bs ?_ (by first | assumption | (simp; done) | (simp; omega))) | (refine bt ?_ (by assumption)))))⟩
/-- A type as it comes in. -/
structure RT where
  i : Int
  n : List UInt8
  o : Int
def RRow (w : World) (g : Nat) (ts : List RT) : Prop := ∀ (j : Nat) (t : RT), ts[j]? = some t → w.cell? ⟨g, j * 3, none⟩ = some (.int .i64 t.i) ∧ w.cell? ⟨g, j * 3 + 1, none⟩ = some (.string (ba' t.n)) ∧ w.cell? ⟨g, j * 3 + 2, none⟩ = some (.int .i64 t.o)
theorem RRow.below {w w' : World} {g : Nat} {ts : List RT} (h : RRow w g ts) (hb : Below w.heap.size w w') : RRow w' g ts := fun j t ht => by
  obtain ⟨h1, h2, h3⟩ := h j t ht
  exact ⟨(hb.cell (p := ⟨g, j * 3, none⟩) (World.block_lt_of_cell? w _ h1)).trans h1, (hb.cell (p := ⟨g, j * 3 + 1, none⟩) (World.block_lt_of_cell? w _ h2)).trans h2, (hb.cell (p := ⟨g, j * 3 + 2, none⟩) (World.block_lt_of_cell? w _ h3)).trans h3⟩
theorem rights_any (ts : List RT) (hts : ∀ t ∈ ts, t.n.length ≤ 1099511627776) (n g : Nat) (hn : ts.length = n) (hn9 : n ≤ 1000) (w : World) (hT : tabs w) (hR : RRow w g ts) :
    Calls Tryd.prog 9 #[.slice (some ⟨g, 0, none⟩) n n] w fun e w' => e = .returned (.bool (ts.all fun t => rightB t.i t.n t.o)) ∧ Below w.heap.size w w' := by
  have HRT : Hid (∀ t ∈ ts, ∀ w1, Below w.heap.size w w1 → Calls Tryd.prog 25 #[.agg #[.int .i64 t.i, .string (ba' t.n), .int .i64 t.o]] w1 fun e w' => e = .returned (.bool (rightB t.i t.n t.o)) ∧ Below w1.heap.size w1 w') := Lib.hid fun t ht w1 h1 => right_prog t.i t.o t.n (hts t ht) w1 (Utf8Tabs_below hT h1)
  have HN := Lib.hid hn; have HRR := Lib.hid hR
  obtain ⟨res, hres⟩ : ∃ b, ts.all (fun t => rightB t.i t.n t.o) = b := ⟨_, rfl⟩
  rw [hres]
  have HRS := Lib.hid hres
  clear hts hT hn hR hres
  go_enter Tryd.func9, Tryd.ntmps9
  go_wp2

  go_loopw [7] (fun s4 wx => ∃ j : Nat, s4 = .int .i64 (j : Nat) ∧ j ≤ n ∧ Hid ((ts.take j).all (fun t => rightB t.i t.n t.o) = true) ∧ Below w.heap.size w wx) (fun s4 _ => n - (intOf s4).toNat)
  case atStart => exact ⟨0, rfl, Nat.zero_le _, Lib.hid (by simp), (by repeat (with_reducible (first | exact Below.refl _ _ | assumption | apply ba | apply bd | apply bdr | (refine bs ?_ (by first | assumption | (simp; done) | (simp; omega))) | (refine bt ?_ (by assumption)))))⟩
  case round =>
    obtain ⟨j, rfl, hj, HAL, hB⟩ := hrel
    have HB := Lib.hid hB
    by_cases hlt : j < n
    · have q1 : decide ((j : Int) < (n : Int)) = true := by simp; omega
      have q1' : decide (j < n) = true := by simpa using hlt
      obtain ⟨t, ht⟩ : ∃ t, ts[j]? = some t := ⟨_, List.getElem?_eq_getElem (by rw [HN.out]; exact hlt)⟩
      obtain ⟨d0, d1, d2⟩ := (HRR.out.below hB) j t ht
      have hw : wrap64 ((j : Int) + 1) = (j : Int) + 1 := by unfold wrap64; omega
      have HX := Lib.hid (HRT.out t (List.mem_of_getElem? ht))
      obtain ⟨rb, hrb⟩ : ∃ b, rightB t.i t.n t.o = b := ⟨_, rfl⟩
      rw [hrb] at HX
      have HRB := Lib.hid hrb; have HT := Lib.hid ht
      obtain ⟨ti, tn, tq⟩ := t
      simp only at d0 d1 d2 HX
      clear hrb ht hB
      go_wp2_with fail
      refine (HX.out _ (by have := HB.out; (repeat (with_reducible (first | exact Below.refl _ _ | assumption | apply ba | apply bd | apply bdr | (refine bs ?_ (by first | assumption | (simp; done) | (simp; omega))) | (refine bt ?_ (by assumption))))))).mono ?_
      rintro e w9 ⟨rfl, hb9⟩
      have b9 : Below w.heap.size w w9 := (by have := HB.out; (repeat (with_reducible (first | exact Below.refl _ _ | assumption | apply ba | apply bd | apply bdr | (refine bs ?_ (by first | assumption | (simp; done) | (simp; omega))) | (refine bt ?_ (by assumption))))))
      cases rb with
      | true =>
        go_wp2
        go_roundw
        case measure => simp [intOf]; omega
        case rel => exact ⟨j + 1, by simp, by omega, Lib.hid (by rw [List.take_add_one, HT.out, List.all_append, HAL.out]; simpa using HRB.out), b9⟩
      | false =>
        have hrs : false = res := by
          rw [← HRS.out]
          cases hh : ts.all (fun t => rightB t.i t.n t.o) with
          | false => rfl
          | true => have := List.all_eq_true.1 hh _ (List.mem_of_getElem? HT.out); rw [HRB.out] at this; cases this
        subst hrs
        go_wp2
        go_ret
        exact ⟨rfl, b9⟩
    · have q1 : decide ((j : Int) < (n : Int)) = false := by simp; omega
      have q1' : decide (j < n) = false := by simpa using hlt
      have hrs : true = res := by
        rw [← HRS.out]
        have h2 := HAL.out
        rw [List.take_of_length_le (by rw [HN.out]; omega)] at h2
        exact h2.symm
      subst hrs
      go_wp2
      go_ret
      exact ⟨rfl, HB.out⟩
end Go.Proofs.YtjpopmgnhgancaaDoor
