/- Tests of nodes, and steps. No condition beyond what the theorems state. -/
import Derived.Test.YtcmlfkoeajpliaaDoorAxSteps
import Derived.Test.YtcmlfkoeajpliaaDoorTree
import Derived.Test.YtcmlfkoeajpliaaDoorRefRight
import Derived.Test.YtcmlfkoeajpliaaDoorAxWalk
namespace Go.Proofs.YtcmlfkoeajpliaaDoor
open Go.RowKit Go.Lib
set_option maxRecDepth 100000
set_option maxHeartbeats 8000000
def nmN (L : List En) (n : Nat) : List UInt8 := if n = 0 then [] else ((L[n - 1]?).map En.n).getD []
theorem nameC {sb lim : Nat} {A : Option Addr} {c : Nat} {L : List En} {w : World} (hS : StoreAt w sb lim A c L) (hL : L.length ≤ 1048576) (n : Nat) :
    Calls Tryd.prog 55 #[.pointer (some ⟨sb, 0, none⟩), .int .i64 (n : Int)] w fun e' w' => e' = .returned (.string (ba' (nmN L n))) ∧ Below w.heap.size w w' := by
  by_cases h : n = 0 ∨ L.length < n
  · have e : nmN L n = [] := by
      unfold nmN
      rcases h with rfl | h
      · rfl
      · rw [if_neg (by omega), List.getElem?_eq_none (by omega)]; rfl
    rw [e]
    exact name_out sb _ w (Lib.hid fun w1 hb => at_out sb lim A c L _ w1 (hS.below hb) hL (by omega))
  · have hx : L[n - 1]? = some (L[n - 1]'(by omega)) := List.getElem?_eq_getElem (by omega)
    have e : nmN L n = (L[n - 1]'(by omega)).n := by unfold nmN; rw [if_neg (by omega), hx]; rfl
    rw [e]
    have := name_in sb lim A c L (n - 1) _ _ _ _ _ w hS hx hL
    rwa [show ((n - 1 : Nat) : Int) + 1 = (n : Int) by omega] at this
/-- Does a test take a node of this kind and name, come to by the axis a? -/
def takesF (k : Int) (nm : List UInt8) (a tk : Int) (tn : List UInt8) : Bool :=
  if tk = 0 then decide (k ≠ 0)
  else if tk = 1 then decide (k = if a = 3 then 3 else 2)
  else if tk = 2 then decide ((k = if a = 3 then 3 else 2) ∧ nm = tn)
  else if tk = 3 then decide (k = 4)
  else if tk = 4 then decide (k = 5)
  else if tk = 5 then decide (k = 2 ∧ (tn = [] ∨ nm = tn))
  else if tk = 6 then decide (k = 3 ∧ (tn = [] ∨ nm = tn))
  else if tk = 7 then decide (k = 1)
  else false
theorem takes_0 (sb : Nat) (n : Nat) (a k : Int) (nm tn : List UInt8) (w : World)
    (HK : Hid (∀ w1 : World, Below w.heap.size w w1 → Calls Tryd.prog 32 #[.pointer (some ⟨sb, 0, none⟩), .int .i64 (n : Int)] w1 fun e' w' => e' = .returned (.int .i64 k) ∧ Below w1.heap.size w1 w'))
    (HN : Hid (∀ w1 : World, Below w.heap.size w w1 → Calls Tryd.prog 55 #[.pointer (some ⟨sb, 0, none⟩), .int .i64 (n : Int)] w1 fun e' w' => e' = .returned (.string (ba' nm)) ∧ Below w1.heap.size w1 w')) :
    Calls Tryd.prog 38 #[.pointer (some ⟨sb, 0, none⟩), .int .i64 (n : Int), .int .i64 a, .agg #[.int .i64 0, .string (ba' tn)]] w fun e' w' => e' = .returned (.bool (takesF k nm a 0 tn)) ∧ Below w.heap.size w w' := by
  by_cases ha : a = 3
  · subst ha
    by_cases hk : k = 0
    · subst hk
      go_enter Tryd.func38, Tryd.ntmps38
      go_wp2_with fail
      refine (HK.out _ (ba (Below.refl _ _))).mono ?_
      rintro e' w3 ⟨rfl, hb3⟩
      have B3 : Below w.heap.size w w3 := bt (ba (Below.refl _ _)) hb3
      go_wp2_with fail
      refine (HN.out _ B3).mono ?_
      rintro e' w4 ⟨rfl, hb4⟩
      have B4 : Below w.heap.size w w4 := bt B3 hb4
      have d0 := ((bcell hb4).1 w.heap.size 0 (by have := hb3.size; simp at this; omega)).trans (((bcell hb3).1 w.heap.size 0 (by simp)).trans (show _ = some (Value.int .i64 0) by simp))
      have d1 := ((bcell hb4).1 w.heap.size 1 (by have := hb3.size; simp at this; omega)).trans (((bcell hb3).1 w.heap.size 1 (by simp)).trans (show _ = some (Value.string (ba' tn)) by simp))
      clear hb3 hb4
      go_wp2
      go_ret
      exact ⟨by simp [takesF], B4⟩
    · have gk : (k == 0) = false := by simpa using hk
      have gk' : decide (k = 0) = false := by simpa using hk
      have gk2 : decide (¬ k = 0) = true := by simpa using hk
      have gk3 : (k != 0) = true := by simpa using hk
      go_enter Tryd.func38, Tryd.ntmps38
      go_wp2_with fail
      refine (HK.out _ (ba (Below.refl _ _))).mono ?_
      rintro e' w3 ⟨rfl, hb3⟩
      have B3 : Below w.heap.size w w3 := bt (ba (Below.refl _ _)) hb3
      go_wp2_with fail
      refine (HN.out _ B3).mono ?_
      rintro e' w4 ⟨rfl, hb4⟩
      have B4 : Below w.heap.size w w4 := bt B3 hb4
      have d0 := ((bcell hb4).1 w.heap.size 0 (by have := hb3.size; simp at this; omega)).trans (((bcell hb3).1 w.heap.size 0 (by simp)).trans (show _ = some (Value.int .i64 0) by simp))
      have d1 := ((bcell hb4).1 w.heap.size 1 (by have := hb3.size; simp at this; omega)).trans (((bcell hb3).1 w.heap.size 1 (by simp)).trans (show _ = some (Value.string (ba' tn)) by simp))
      clear hb3 hb4
      go_wp2
      go_ret
      exact ⟨by simp [takesF, hk], B4⟩
  · have ga : (a == 3) = false := by simpa using ha
    have ga' : decide (a = 3) = false := by simpa using ha
    by_cases hk : k = 0
    · subst hk
      go_enter Tryd.func38, Tryd.ntmps38
      go_wp2_with fail
      refine (HK.out _ (ba (Below.refl _ _))).mono ?_
      rintro e' w3 ⟨rfl, hb3⟩
      have B3 : Below w.heap.size w w3 := bt (ba (Below.refl _ _)) hb3
      go_wp2_with fail
      refine (HN.out _ B3).mono ?_
      rintro e' w4 ⟨rfl, hb4⟩
      have B4 : Below w.heap.size w w4 := bt B3 hb4
      have d0 := ((bcell hb4).1 w.heap.size 0 (by have := hb3.size; simp at this; omega)).trans (((bcell hb3).1 w.heap.size 0 (by simp)).trans (show _ = some (Value.int .i64 0) by simp))
      have d1 := ((bcell hb4).1 w.heap.size 1 (by have := hb3.size; simp at this; omega)).trans (((bcell hb3).1 w.heap.size 1 (by simp)).trans (show _ = some (Value.string (ba' tn)) by simp))
      clear hb3 hb4
      go_wp2
      go_ret
      exact ⟨by simp [takesF], B4⟩
    · have gk : (k == 0) = false := by simpa using hk
      have gk' : decide (k = 0) = false := by simpa using hk
      have gk2 : decide (¬ k = 0) = true := by simpa using hk
      have gk3 : (k != 0) = true := by simpa using hk
      go_enter Tryd.func38, Tryd.ntmps38
      go_wp2_with fail
      refine (HK.out _ (ba (Below.refl _ _))).mono ?_
      rintro e' w3 ⟨rfl, hb3⟩
      have B3 : Below w.heap.size w w3 := bt (ba (Below.refl _ _)) hb3
      go_wp2_with fail
      refine (HN.out _ B3).mono ?_
      rintro e' w4 ⟨rfl, hb4⟩
      have B4 : Below w.heap.size w w4 := bt B3 hb4
      have d0 := ((bcell hb4).1 w.heap.size 0 (by have := hb3.size; simp at this; omega)).trans (((bcell hb3).1 w.heap.size 0 (by simp)).trans (show _ = some (Value.int .i64 0) by simp))
      have d1 := ((bcell hb4).1 w.heap.size 1 (by have := hb3.size; simp at this; omega)).trans (((bcell hb3).1 w.heap.size 1 (by simp)).trans (show _ = some (Value.string (ba' tn)) by simp))
      clear hb3 hb4
      go_wp2
      go_ret
      exact ⟨by simp [takesF, hk], B4⟩
theorem takes_1 (sb : Nat) (n : Nat) (a k : Int) (nm tn : List UInt8) (w : World)
    (HK : Hid (∀ w1 : World, Below w.heap.size w w1 → Calls Tryd.prog 32 #[.pointer (some ⟨sb, 0, none⟩), .int .i64 (n : Int)] w1 fun e' w' => e' = .returned (.int .i64 k) ∧ Below w1.heap.size w1 w'))
    (HN : Hid (∀ w1 : World, Below w.heap.size w w1 → Calls Tryd.prog 55 #[.pointer (some ⟨sb, 0, none⟩), .int .i64 (n : Int)] w1 fun e' w' => e' = .returned (.string (ba' nm)) ∧ Below w1.heap.size w1 w')) :
    Calls Tryd.prog 38 #[.pointer (some ⟨sb, 0, none⟩), .int .i64 (n : Int), .int .i64 a, .agg #[.int .i64 1, .string (ba' tn)]] w fun e' w' => e' = .returned (.bool (takesF k nm a 1 tn)) ∧ Below w.heap.size w w' := by
  by_cases ha : a = 3
  · subst ha
    by_cases hk : k = 3
    · subst hk
      go_enter Tryd.func38, Tryd.ntmps38
      go_wp2_with fail
      refine (HK.out _ (ba (Below.refl _ _))).mono ?_
      rintro e' w3 ⟨rfl, hb3⟩
      have B3 : Below w.heap.size w w3 := bt (ba (Below.refl _ _)) hb3
      go_wp2_with fail
      refine (HN.out _ B3).mono ?_
      rintro e' w4 ⟨rfl, hb4⟩
      have B4 : Below w.heap.size w w4 := bt B3 hb4
      have d0 := ((bcell hb4).1 w.heap.size 0 (by have := hb3.size; simp at this; omega)).trans (((bcell hb3).1 w.heap.size 0 (by simp)).trans (show _ = some (Value.int .i64 1) by simp))
      have d1 := ((bcell hb4).1 w.heap.size 1 (by have := hb3.size; simp at this; omega)).trans (((bcell hb3).1 w.heap.size 1 (by simp)).trans (show _ = some (Value.string (ba' tn)) by simp))
      clear hb3 hb4
      go_wp2
      go_ret
      exact ⟨by simp [takesF], B4⟩
    · have gk : (k == 3) = false := by simpa using hk
      have gk' : decide (k = 3) = false := by simpa using hk
      go_enter Tryd.func38, Tryd.ntmps38
      go_wp2_with fail
      refine (HK.out _ (ba (Below.refl _ _))).mono ?_
      rintro e' w3 ⟨rfl, hb3⟩
      have B3 : Below w.heap.size w w3 := bt (ba (Below.refl _ _)) hb3
      go_wp2_with fail
      refine (HN.out _ B3).mono ?_
      rintro e' w4 ⟨rfl, hb4⟩
      have B4 : Below w.heap.size w w4 := bt B3 hb4
      have d0 := ((bcell hb4).1 w.heap.size 0 (by have := hb3.size; simp at this; omega)).trans (((bcell hb3).1 w.heap.size 0 (by simp)).trans (show _ = some (Value.int .i64 1) by simp))
      have d1 := ((bcell hb4).1 w.heap.size 1 (by have := hb3.size; simp at this; omega)).trans (((bcell hb3).1 w.heap.size 1 (by simp)).trans (show _ = some (Value.string (ba' tn)) by simp))
      clear hb3 hb4
      go_wp2
      go_ret
      exact ⟨by simp [takesF, hk], B4⟩
  · have ga : (a == 3) = false := by simpa using ha
    have ga' : decide (a = 3) = false := by simpa using ha
    by_cases hk : k = 2
    · subst hk
      go_enter Tryd.func38, Tryd.ntmps38
      go_wp2_with fail
      refine (HK.out _ (ba (Below.refl _ _))).mono ?_
      rintro e' w3 ⟨rfl, hb3⟩
      have B3 : Below w.heap.size w w3 := bt (ba (Below.refl _ _)) hb3
      go_wp2_with fail
      refine (HN.out _ B3).mono ?_
      rintro e' w4 ⟨rfl, hb4⟩
      have B4 : Below w.heap.size w w4 := bt B3 hb4
      have d0 := ((bcell hb4).1 w.heap.size 0 (by have := hb3.size; simp at this; omega)).trans (((bcell hb3).1 w.heap.size 0 (by simp)).trans (show _ = some (Value.int .i64 1) by simp))
      have d1 := ((bcell hb4).1 w.heap.size 1 (by have := hb3.size; simp at this; omega)).trans (((bcell hb3).1 w.heap.size 1 (by simp)).trans (show _ = some (Value.string (ba' tn)) by simp))
      clear hb3 hb4
      go_wp2
      go_ret
      exact ⟨by simp [takesF, ha], B4⟩
    · have gk : (k == 2) = false := by simpa using hk
      have gk' : decide (k = 2) = false := by simpa using hk
      go_enter Tryd.func38, Tryd.ntmps38
      go_wp2_with fail
      refine (HK.out _ (ba (Below.refl _ _))).mono ?_
      rintro e' w3 ⟨rfl, hb3⟩
      have B3 : Below w.heap.size w w3 := bt (ba (Below.refl _ _)) hb3
      go_wp2_with fail
      refine (HN.out _ B3).mono ?_
      rintro e' w4 ⟨rfl, hb4⟩
      have B4 : Below w.heap.size w w4 := bt B3 hb4
      have d0 := ((bcell hb4).1 w.heap.size 0 (by have := hb3.size; simp at this; omega)).trans (((bcell hb3).1 w.heap.size 0 (by simp)).trans (show _ = some (Value.int .i64 1) by simp))
      have d1 := ((bcell hb4).1 w.heap.size 1 (by have := hb3.size; simp at this; omega)).trans (((bcell hb3).1 w.heap.size 1 (by simp)).trans (show _ = some (Value.string (ba' tn)) by simp))
      clear hb3 hb4
      go_wp2
      go_ret
      exact ⟨by simp [takesF, hk, ha], B4⟩
theorem takes_2 (sb : Nat) (n : Nat) (a k : Int) (nm tn : List UInt8) (w : World)
    (HK : Hid (∀ w1 : World, Below w.heap.size w w1 → Calls Tryd.prog 32 #[.pointer (some ⟨sb, 0, none⟩), .int .i64 (n : Int)] w1 fun e' w' => e' = .returned (.int .i64 k) ∧ Below w1.heap.size w1 w'))
    (HN : Hid (∀ w1 : World, Below w.heap.size w w1 → Calls Tryd.prog 55 #[.pointer (some ⟨sb, 0, none⟩), .int .i64 (n : Int)] w1 fun e' w' => e' = .returned (.string (ba' nm)) ∧ Below w1.heap.size w1 w')) :
    Calls Tryd.prog 38 #[.pointer (some ⟨sb, 0, none⟩), .int .i64 (n : Int), .int .i64 a, .agg #[.int .i64 2, .string (ba' tn)]] w fun e' w' => e' = .returned (.bool (takesF k nm a 2 tn)) ∧ Below w.heap.size w w' := by
  by_cases ha : a = 3
  · subst ha
    by_cases hk : k = 3
    · subst hk
      by_cases hn : nm = tn
      · have gn : ((ba' nm).toList == (ba' tn).toList) = true := by rw [hn]; exact eq_yes tn
        go_enter Tryd.func38, Tryd.ntmps38
        go_wp2_with fail
        refine (HK.out _ (ba (Below.refl _ _))).mono ?_
        rintro e' w3 ⟨rfl, hb3⟩
        have B3 : Below w.heap.size w w3 := bt (ba (Below.refl _ _)) hb3
        go_wp2_with fail
        refine (HN.out _ B3).mono ?_
        rintro e' w4 ⟨rfl, hb4⟩
        have B4 : Below w.heap.size w w4 := bt B3 hb4
        have d0 := ((bcell hb4).1 w.heap.size 0 (by have := hb3.size; simp at this; omega)).trans (((bcell hb3).1 w.heap.size 0 (by simp)).trans (show _ = some (Value.int .i64 2) by simp))
        have d1 := ((bcell hb4).1 w.heap.size 1 (by have := hb3.size; simp at this; omega)).trans (((bcell hb3).1 w.heap.size 1 (by simp)).trans (show _ = some (Value.string (ba' tn)) by simp))
        clear hb3 hb4
        go_wp2
        go_ret
        exact ⟨by simp [takesF, hn], B4⟩
      · have gn := eq_no hn
        go_enter Tryd.func38, Tryd.ntmps38
        go_wp2_with fail
        refine (HK.out _ (ba (Below.refl _ _))).mono ?_
        rintro e' w3 ⟨rfl, hb3⟩
        have B3 : Below w.heap.size w w3 := bt (ba (Below.refl _ _)) hb3
        go_wp2_with fail
        refine (HN.out _ B3).mono ?_
        rintro e' w4 ⟨rfl, hb4⟩
        have B4 : Below w.heap.size w w4 := bt B3 hb4
        have d0 := ((bcell hb4).1 w.heap.size 0 (by have := hb3.size; simp at this; omega)).trans (((bcell hb3).1 w.heap.size 0 (by simp)).trans (show _ = some (Value.int .i64 2) by simp))
        have d1 := ((bcell hb4).1 w.heap.size 1 (by have := hb3.size; simp at this; omega)).trans (((bcell hb3).1 w.heap.size 1 (by simp)).trans (show _ = some (Value.string (ba' tn)) by simp))
        clear hb3 hb4
        go_wp2
        go_ret
        exact ⟨by simp [takesF, hn], B4⟩
    · have gk : (k == 3) = false := by simpa using hk
      have gk' : decide (k = 3) = false := by simpa using hk
      go_enter Tryd.func38, Tryd.ntmps38
      go_wp2_with fail
      refine (HK.out _ (ba (Below.refl _ _))).mono ?_
      rintro e' w3 ⟨rfl, hb3⟩
      have B3 : Below w.heap.size w w3 := bt (ba (Below.refl _ _)) hb3
      go_wp2_with fail
      refine (HN.out _ B3).mono ?_
      rintro e' w4 ⟨rfl, hb4⟩
      have B4 : Below w.heap.size w w4 := bt B3 hb4
      have d0 := ((bcell hb4).1 w.heap.size 0 (by have := hb3.size; simp at this; omega)).trans (((bcell hb3).1 w.heap.size 0 (by simp)).trans (show _ = some (Value.int .i64 2) by simp))
      have d1 := ((bcell hb4).1 w.heap.size 1 (by have := hb3.size; simp at this; omega)).trans (((bcell hb3).1 w.heap.size 1 (by simp)).trans (show _ = some (Value.string (ba' tn)) by simp))
      clear hb3 hb4
      go_wp2
      go_ret
      exact ⟨by simp [takesF, hk], B4⟩
  · have ga : (a == 3) = false := by simpa using ha
    have ga' : decide (a = 3) = false := by simpa using ha
    by_cases hk : k = 2
    · subst hk
      by_cases hn : nm = tn
      · have gn : ((ba' nm).toList == (ba' tn).toList) = true := by rw [hn]; exact eq_yes tn
        go_enter Tryd.func38, Tryd.ntmps38
        go_wp2_with fail
        refine (HK.out _ (ba (Below.refl _ _))).mono ?_
        rintro e' w3 ⟨rfl, hb3⟩
        have B3 : Below w.heap.size w w3 := bt (ba (Below.refl _ _)) hb3
        go_wp2_with fail
        refine (HN.out _ B3).mono ?_
        rintro e' w4 ⟨rfl, hb4⟩
        have B4 : Below w.heap.size w w4 := bt B3 hb4
        have d0 := ((bcell hb4).1 w.heap.size 0 (by have := hb3.size; simp at this; omega)).trans (((bcell hb3).1 w.heap.size 0 (by simp)).trans (show _ = some (Value.int .i64 2) by simp))
        have d1 := ((bcell hb4).1 w.heap.size 1 (by have := hb3.size; simp at this; omega)).trans (((bcell hb3).1 w.heap.size 1 (by simp)).trans (show _ = some (Value.string (ba' tn)) by simp))
        clear hb3 hb4
        go_wp2
        go_ret
        exact ⟨by simp [takesF, hn, ha], B4⟩
      · have gn := eq_no hn
        go_enter Tryd.func38, Tryd.ntmps38
        go_wp2_with fail
        refine (HK.out _ (ba (Below.refl _ _))).mono ?_
        rintro e' w3 ⟨rfl, hb3⟩
        have B3 : Below w.heap.size w w3 := bt (ba (Below.refl _ _)) hb3
        go_wp2_with fail
        refine (HN.out _ B3).mono ?_
        rintro e' w4 ⟨rfl, hb4⟩
        have B4 : Below w.heap.size w w4 := bt B3 hb4
        have d0 := ((bcell hb4).1 w.heap.size 0 (by have := hb3.size; simp at this; omega)).trans (((bcell hb3).1 w.heap.size 0 (by simp)).trans (show _ = some (Value.int .i64 2) by simp))
        have d1 := ((bcell hb4).1 w.heap.size 1 (by have := hb3.size; simp at this; omega)).trans (((bcell hb3).1 w.heap.size 1 (by simp)).trans (show _ = some (Value.string (ba' tn)) by simp))
        clear hb3 hb4
        go_wp2
        go_ret
        exact ⟨by simp [takesF, hn, ha], B4⟩
    · have gk : (k == 2) = false := by simpa using hk
      have gk' : decide (k = 2) = false := by simpa using hk
      go_enter Tryd.func38, Tryd.ntmps38
      go_wp2_with fail
      refine (HK.out _ (ba (Below.refl _ _))).mono ?_
      rintro e' w3 ⟨rfl, hb3⟩
      have B3 : Below w.heap.size w w3 := bt (ba (Below.refl _ _)) hb3
      go_wp2_with fail
      refine (HN.out _ B3).mono ?_
      rintro e' w4 ⟨rfl, hb4⟩
      have B4 : Below w.heap.size w w4 := bt B3 hb4
      have d0 := ((bcell hb4).1 w.heap.size 0 (by have := hb3.size; simp at this; omega)).trans (((bcell hb3).1 w.heap.size 0 (by simp)).trans (show _ = some (Value.int .i64 2) by simp))
      have d1 := ((bcell hb4).1 w.heap.size 1 (by have := hb3.size; simp at this; omega)).trans (((bcell hb3).1 w.heap.size 1 (by simp)).trans (show _ = some (Value.string (ba' tn)) by simp))
      clear hb3 hb4
      go_wp2
      go_ret
      exact ⟨by simp [takesF, hk, ha], B4⟩
theorem takes_3 (sb : Nat) (n : Nat) (a k : Int) (nm tn : List UInt8) (w : World)
    (HK : Hid (∀ w1 : World, Below w.heap.size w w1 → Calls Tryd.prog 32 #[.pointer (some ⟨sb, 0, none⟩), .int .i64 (n : Int)] w1 fun e' w' => e' = .returned (.int .i64 k) ∧ Below w1.heap.size w1 w'))
    (HN : Hid (∀ w1 : World, Below w.heap.size w w1 → Calls Tryd.prog 55 #[.pointer (some ⟨sb, 0, none⟩), .int .i64 (n : Int)] w1 fun e' w' => e' = .returned (.string (ba' nm)) ∧ Below w1.heap.size w1 w')) :
    Calls Tryd.prog 38 #[.pointer (some ⟨sb, 0, none⟩), .int .i64 (n : Int), .int .i64 a, .agg #[.int .i64 3, .string (ba' tn)]] w fun e' w' => e' = .returned (.bool (takesF k nm a 3 tn)) ∧ Below w.heap.size w w' := by
  by_cases ha : a = 3
  · subst ha
    by_cases hk : k = 4
    · subst hk
      go_enter Tryd.func38, Tryd.ntmps38
      go_wp2_with fail
      refine (HK.out _ (ba (Below.refl _ _))).mono ?_
      rintro e' w3 ⟨rfl, hb3⟩
      have B3 : Below w.heap.size w w3 := bt (ba (Below.refl _ _)) hb3
      go_wp2_with fail
      refine (HN.out _ B3).mono ?_
      rintro e' w4 ⟨rfl, hb4⟩
      have B4 : Below w.heap.size w w4 := bt B3 hb4
      have d0 := ((bcell hb4).1 w.heap.size 0 (by have := hb3.size; simp at this; omega)).trans (((bcell hb3).1 w.heap.size 0 (by simp)).trans (show _ = some (Value.int .i64 3) by simp))
      have d1 := ((bcell hb4).1 w.heap.size 1 (by have := hb3.size; simp at this; omega)).trans (((bcell hb3).1 w.heap.size 1 (by simp)).trans (show _ = some (Value.string (ba' tn)) by simp))
      clear hb3 hb4
      go_wp2
      go_ret
      exact ⟨by simp [takesF], B4⟩
    · have gk : (k == 4) = false := by simpa using hk
      have gk' : decide (k = 4) = false := by simpa using hk
      go_enter Tryd.func38, Tryd.ntmps38
      go_wp2_with fail
      refine (HK.out _ (ba (Below.refl _ _))).mono ?_
      rintro e' w3 ⟨rfl, hb3⟩
      have B3 : Below w.heap.size w w3 := bt (ba (Below.refl _ _)) hb3
      go_wp2_with fail
      refine (HN.out _ B3).mono ?_
      rintro e' w4 ⟨rfl, hb4⟩
      have B4 : Below w.heap.size w w4 := bt B3 hb4
      have d0 := ((bcell hb4).1 w.heap.size 0 (by have := hb3.size; simp at this; omega)).trans (((bcell hb3).1 w.heap.size 0 (by simp)).trans (show _ = some (Value.int .i64 3) by simp))
      have d1 := ((bcell hb4).1 w.heap.size 1 (by have := hb3.size; simp at this; omega)).trans (((bcell hb3).1 w.heap.size 1 (by simp)).trans (show _ = some (Value.string (ba' tn)) by simp))
      clear hb3 hb4
      go_wp2
      go_ret
      exact ⟨by simp [takesF, hk], B4⟩
  · have ga : (a == 3) = false := by simpa using ha
    have ga' : decide (a = 3) = false := by simpa using ha
    by_cases hk : k = 4
    · subst hk
      go_enter Tryd.func38, Tryd.ntmps38
      go_wp2_with fail
      refine (HK.out _ (ba (Below.refl _ _))).mono ?_
      rintro e' w3 ⟨rfl, hb3⟩
      have B3 : Below w.heap.size w w3 := bt (ba (Below.refl _ _)) hb3
      go_wp2_with fail
      refine (HN.out _ B3).mono ?_
      rintro e' w4 ⟨rfl, hb4⟩
      have B4 : Below w.heap.size w w4 := bt B3 hb4
      have d0 := ((bcell hb4).1 w.heap.size 0 (by have := hb3.size; simp at this; omega)).trans (((bcell hb3).1 w.heap.size 0 (by simp)).trans (show _ = some (Value.int .i64 3) by simp))
      have d1 := ((bcell hb4).1 w.heap.size 1 (by have := hb3.size; simp at this; omega)).trans (((bcell hb3).1 w.heap.size 1 (by simp)).trans (show _ = some (Value.string (ba' tn)) by simp))
      clear hb3 hb4
      go_wp2
      go_ret
      exact ⟨by simp [takesF], B4⟩
    · have gk : (k == 4) = false := by simpa using hk
      have gk' : decide (k = 4) = false := by simpa using hk
      go_enter Tryd.func38, Tryd.ntmps38
      go_wp2_with fail
      refine (HK.out _ (ba (Below.refl _ _))).mono ?_
      rintro e' w3 ⟨rfl, hb3⟩
      have B3 : Below w.heap.size w w3 := bt (ba (Below.refl _ _)) hb3
      go_wp2_with fail
      refine (HN.out _ B3).mono ?_
      rintro e' w4 ⟨rfl, hb4⟩
      have B4 : Below w.heap.size w w4 := bt B3 hb4
      have d0 := ((bcell hb4).1 w.heap.size 0 (by have := hb3.size; simp at this; omega)).trans (((bcell hb3).1 w.heap.size 0 (by simp)).trans (show _ = some (Value.int .i64 3) by simp))
      have d1 := ((bcell hb4).1 w.heap.size 1 (by have := hb3.size; simp at this; omega)).trans (((bcell hb3).1 w.heap.size 1 (by simp)).trans (show _ = some (Value.string (ba' tn)) by simp))
      clear hb3 hb4
      go_wp2
      go_ret
      exact ⟨by simp [takesF, hk], B4⟩
theorem takes_4 (sb : Nat) (n : Nat) (a k : Int) (nm tn : List UInt8) (w : World)
    (HK : Hid (∀ w1 : World, Below w.heap.size w w1 → Calls Tryd.prog 32 #[.pointer (some ⟨sb, 0, none⟩), .int .i64 (n : Int)] w1 fun e' w' => e' = .returned (.int .i64 k) ∧ Below w1.heap.size w1 w'))
    (HN : Hid (∀ w1 : World, Below w.heap.size w w1 → Calls Tryd.prog 55 #[.pointer (some ⟨sb, 0, none⟩), .int .i64 (n : Int)] w1 fun e' w' => e' = .returned (.string (ba' nm)) ∧ Below w1.heap.size w1 w')) :
    Calls Tryd.prog 38 #[.pointer (some ⟨sb, 0, none⟩), .int .i64 (n : Int), .int .i64 a, .agg #[.int .i64 4, .string (ba' tn)]] w fun e' w' => e' = .returned (.bool (takesF k nm a 4 tn)) ∧ Below w.heap.size w w' := by
  by_cases ha : a = 3
  · subst ha
    by_cases hk : k = 5
    · subst hk
      go_enter Tryd.func38, Tryd.ntmps38
      go_wp2_with fail
      refine (HK.out _ (ba (Below.refl _ _))).mono ?_
      rintro e' w3 ⟨rfl, hb3⟩
      have B3 : Below w.heap.size w w3 := bt (ba (Below.refl _ _)) hb3
      go_wp2_with fail
      refine (HN.out _ B3).mono ?_
      rintro e' w4 ⟨rfl, hb4⟩
      have B4 : Below w.heap.size w w4 := bt B3 hb4
      have d0 := ((bcell hb4).1 w.heap.size 0 (by have := hb3.size; simp at this; omega)).trans (((bcell hb3).1 w.heap.size 0 (by simp)).trans (show _ = some (Value.int .i64 4) by simp))
      have d1 := ((bcell hb4).1 w.heap.size 1 (by have := hb3.size; simp at this; omega)).trans (((bcell hb3).1 w.heap.size 1 (by simp)).trans (show _ = some (Value.string (ba' tn)) by simp))
      clear hb3 hb4
      go_wp2
      go_ret
      exact ⟨by simp [takesF], B4⟩
    · have gk : (k == 5) = false := by simpa using hk
      have gk' : decide (k = 5) = false := by simpa using hk
      go_enter Tryd.func38, Tryd.ntmps38
      go_wp2_with fail
      refine (HK.out _ (ba (Below.refl _ _))).mono ?_
      rintro e' w3 ⟨rfl, hb3⟩
      have B3 : Below w.heap.size w w3 := bt (ba (Below.refl _ _)) hb3
      go_wp2_with fail
      refine (HN.out _ B3).mono ?_
      rintro e' w4 ⟨rfl, hb4⟩
      have B4 : Below w.heap.size w w4 := bt B3 hb4
      have d0 := ((bcell hb4).1 w.heap.size 0 (by have := hb3.size; simp at this; omega)).trans (((bcell hb3).1 w.heap.size 0 (by simp)).trans (show _ = some (Value.int .i64 4) by simp))
      have d1 := ((bcell hb4).1 w.heap.size 1 (by have := hb3.size; simp at this; omega)).trans (((bcell hb3).1 w.heap.size 1 (by simp)).trans (show _ = some (Value.string (ba' tn)) by simp))
      clear hb3 hb4
      go_wp2
      go_ret
      exact ⟨by simp [takesF, hk], B4⟩
  · have ga : (a == 3) = false := by simpa using ha
    have ga' : decide (a = 3) = false := by simpa using ha
    by_cases hk : k = 5
    · subst hk
      go_enter Tryd.func38, Tryd.ntmps38
      go_wp2_with fail
      refine (HK.out _ (ba (Below.refl _ _))).mono ?_
      rintro e' w3 ⟨rfl, hb3⟩
      have B3 : Below w.heap.size w w3 := bt (ba (Below.refl _ _)) hb3
      go_wp2_with fail
      refine (HN.out _ B3).mono ?_
      rintro e' w4 ⟨rfl, hb4⟩
      have B4 : Below w.heap.size w w4 := bt B3 hb4
      have d0 := ((bcell hb4).1 w.heap.size 0 (by have := hb3.size; simp at this; omega)).trans (((bcell hb3).1 w.heap.size 0 (by simp)).trans (show _ = some (Value.int .i64 4) by simp))
      have d1 := ((bcell hb4).1 w.heap.size 1 (by have := hb3.size; simp at this; omega)).trans (((bcell hb3).1 w.heap.size 1 (by simp)).trans (show _ = some (Value.string (ba' tn)) by simp))
      clear hb3 hb4
      go_wp2
      go_ret
      exact ⟨by simp [takesF], B4⟩
    · have gk : (k == 5) = false := by simpa using hk
      have gk' : decide (k = 5) = false := by simpa using hk
      go_enter Tryd.func38, Tryd.ntmps38
      go_wp2_with fail
      refine (HK.out _ (ba (Below.refl _ _))).mono ?_
      rintro e' w3 ⟨rfl, hb3⟩
      have B3 : Below w.heap.size w w3 := bt (ba (Below.refl _ _)) hb3
      go_wp2_with fail
      refine (HN.out _ B3).mono ?_
      rintro e' w4 ⟨rfl, hb4⟩
      have B4 : Below w.heap.size w w4 := bt B3 hb4
      have d0 := ((bcell hb4).1 w.heap.size 0 (by have := hb3.size; simp at this; omega)).trans (((bcell hb3).1 w.heap.size 0 (by simp)).trans (show _ = some (Value.int .i64 4) by simp))
      have d1 := ((bcell hb4).1 w.heap.size 1 (by have := hb3.size; simp at this; omega)).trans (((bcell hb3).1 w.heap.size 1 (by simp)).trans (show _ = some (Value.string (ba' tn)) by simp))
      clear hb3 hb4
      go_wp2
      go_ret
      exact ⟨by simp [takesF, hk], B4⟩
theorem takes_7 (sb : Nat) (n : Nat) (a k : Int) (nm tn : List UInt8) (w : World)
    (HK : Hid (∀ w1 : World, Below w.heap.size w w1 → Calls Tryd.prog 32 #[.pointer (some ⟨sb, 0, none⟩), .int .i64 (n : Int)] w1 fun e' w' => e' = .returned (.int .i64 k) ∧ Below w1.heap.size w1 w'))
    (HN : Hid (∀ w1 : World, Below w.heap.size w w1 → Calls Tryd.prog 55 #[.pointer (some ⟨sb, 0, none⟩), .int .i64 (n : Int)] w1 fun e' w' => e' = .returned (.string (ba' nm)) ∧ Below w1.heap.size w1 w')) :
    Calls Tryd.prog 38 #[.pointer (some ⟨sb, 0, none⟩), .int .i64 (n : Int), .int .i64 a, .agg #[.int .i64 7, .string (ba' tn)]] w fun e' w' => e' = .returned (.bool (takesF k nm a 7 tn)) ∧ Below w.heap.size w w' := by
  by_cases ha : a = 3
  · subst ha
    by_cases hk : k = 1
    · subst hk
      go_enter Tryd.func38, Tryd.ntmps38
      go_wp2_with fail
      refine (HK.out _ (ba (Below.refl _ _))).mono ?_
      rintro e' w3 ⟨rfl, hb3⟩
      have B3 : Below w.heap.size w w3 := bt (ba (Below.refl _ _)) hb3
      go_wp2_with fail
      refine (HN.out _ B3).mono ?_
      rintro e' w4 ⟨rfl, hb4⟩
      have B4 : Below w.heap.size w w4 := bt B3 hb4
      have d0 := ((bcell hb4).1 w.heap.size 0 (by have := hb3.size; simp at this; omega)).trans (((bcell hb3).1 w.heap.size 0 (by simp)).trans (show _ = some (Value.int .i64 7) by simp))
      have d1 := ((bcell hb4).1 w.heap.size 1 (by have := hb3.size; simp at this; omega)).trans (((bcell hb3).1 w.heap.size 1 (by simp)).trans (show _ = some (Value.string (ba' tn)) by simp))
      clear hb3 hb4
      go_wp2
      go_ret
      exact ⟨by simp [takesF], B4⟩
    · have gk : (k == 1) = false := by simpa using hk
      have gk' : decide (k = 1) = false := by simpa using hk
      go_enter Tryd.func38, Tryd.ntmps38
      go_wp2_with fail
      refine (HK.out _ (ba (Below.refl _ _))).mono ?_
      rintro e' w3 ⟨rfl, hb3⟩
      have B3 : Below w.heap.size w w3 := bt (ba (Below.refl _ _)) hb3
      go_wp2_with fail
      refine (HN.out _ B3).mono ?_
      rintro e' w4 ⟨rfl, hb4⟩
      have B4 : Below w.heap.size w w4 := bt B3 hb4
      have d0 := ((bcell hb4).1 w.heap.size 0 (by have := hb3.size; simp at this; omega)).trans (((bcell hb3).1 w.heap.size 0 (by simp)).trans (show _ = some (Value.int .i64 7) by simp))
      have d1 := ((bcell hb4).1 w.heap.size 1 (by have := hb3.size; simp at this; omega)).trans (((bcell hb3).1 w.heap.size 1 (by simp)).trans (show _ = some (Value.string (ba' tn)) by simp))
      clear hb3 hb4
      go_wp2
      go_ret
      exact ⟨by simp [takesF, hk], B4⟩
  · have ga : (a == 3) = false := by simpa using ha
    have ga' : decide (a = 3) = false := by simpa using ha
    by_cases hk : k = 1
    · subst hk
      go_enter Tryd.func38, Tryd.ntmps38
      go_wp2_with fail
      refine (HK.out _ (ba (Below.refl _ _))).mono ?_
      rintro e' w3 ⟨rfl, hb3⟩
      have B3 : Below w.heap.size w w3 := bt (ba (Below.refl _ _)) hb3
      go_wp2_with fail
      refine (HN.out _ B3).mono ?_
      rintro e' w4 ⟨rfl, hb4⟩
      have B4 : Below w.heap.size w w4 := bt B3 hb4
      have d0 := ((bcell hb4).1 w.heap.size 0 (by have := hb3.size; simp at this; omega)).trans (((bcell hb3).1 w.heap.size 0 (by simp)).trans (show _ = some (Value.int .i64 7) by simp))
      have d1 := ((bcell hb4).1 w.heap.size 1 (by have := hb3.size; simp at this; omega)).trans (((bcell hb3).1 w.heap.size 1 (by simp)).trans (show _ = some (Value.string (ba' tn)) by simp))
      clear hb3 hb4
      go_wp2
      go_ret
      exact ⟨by simp [takesF], B4⟩
    · have gk : (k == 1) = false := by simpa using hk
      have gk' : decide (k = 1) = false := by simpa using hk
      go_enter Tryd.func38, Tryd.ntmps38
      go_wp2_with fail
      refine (HK.out _ (ba (Below.refl _ _))).mono ?_
      rintro e' w3 ⟨rfl, hb3⟩
      have B3 : Below w.heap.size w w3 := bt (ba (Below.refl _ _)) hb3
      go_wp2_with fail
      refine (HN.out _ B3).mono ?_
      rintro e' w4 ⟨rfl, hb4⟩
      have B4 : Below w.heap.size w w4 := bt B3 hb4
      have d0 := ((bcell hb4).1 w.heap.size 0 (by have := hb3.size; simp at this; omega)).trans (((bcell hb3).1 w.heap.size 0 (by simp)).trans (show _ = some (Value.int .i64 7) by simp))
      have d1 := ((bcell hb4).1 w.heap.size 1 (by have := hb3.size; simp at this; omega)).trans (((bcell hb3).1 w.heap.size 1 (by simp)).trans (show _ = some (Value.string (ba' tn)) by simp))
      clear hb3 hb4
      go_wp2
      go_ret
      exact ⟨by simp [takesF, hk], B4⟩
theorem takes_5 (sb : Nat) (n : Nat) (a k : Int) (nm tn : List UInt8) (w : World)
    (HK : Hid (∀ w1 : World, Below w.heap.size w w1 → Calls Tryd.prog 32 #[.pointer (some ⟨sb, 0, none⟩), .int .i64 (n : Int)] w1 fun e' w' => e' = .returned (.int .i64 k) ∧ Below w1.heap.size w1 w'))
    (HN : Hid (∀ w1 : World, Below w.heap.size w w1 → Calls Tryd.prog 55 #[.pointer (some ⟨sb, 0, none⟩), .int .i64 (n : Int)] w1 fun e' w' => e' = .returned (.string (ba' nm)) ∧ Below w1.heap.size w1 w')) :
    Calls Tryd.prog 38 #[.pointer (some ⟨sb, 0, none⟩), .int .i64 (n : Int), .int .i64 a, .agg #[.int .i64 5, .string (ba' tn)]] w fun e' w' => e' = .returned (.bool (takesF k nm a 5 tn)) ∧ Below w.heap.size w w' := by
  by_cases ha : a = 3
  · subst ha
    by_cases hk : k = 2
    · subst hk
      by_cases he : tn = []
      · have ge := isE he
        have HE := Lib.hid he
        clear he
        go_enter Tryd.func38, Tryd.ntmps38
        go_wp2_with fail
        refine (HK.out _ (ba (Below.refl _ _))).mono ?_
        rintro e' w3 ⟨rfl, hb3⟩
        have B3 : Below w.heap.size w w3 := bt (ba (Below.refl _ _)) hb3
        go_wp2_with fail
        refine (HN.out _ B3).mono ?_
        rintro e' w4 ⟨rfl, hb4⟩
        have B4 : Below w.heap.size w w4 := bt B3 hb4
        have d0 := ((bcell hb4).1 w.heap.size 0 (by have := hb3.size; simp at this; omega)).trans (((bcell hb3).1 w.heap.size 0 (by simp)).trans (show _ = some (Value.int .i64 5) by simp))
        have d1 := ((bcell hb4).1 w.heap.size 1 (by have := hb3.size; simp at this; omega)).trans (((bcell hb3).1 w.heap.size 1 (by simp)).trans (show _ = some (Value.string (ba' tn)) by simp))
        clear hb3 hb4
        go_wp2
        go_ret
        exact ⟨by simp [takesF, HE.out], B4⟩
      · have ge := isN he
        by_cases hn : nm = tn
        · have gn : ((ba' nm).toList == (ba' tn).toList) = true := by rw [hn]; exact eq_yes tn
          go_enter Tryd.func38, Tryd.ntmps38
          go_wp2_with fail
          refine (HK.out _ (ba (Below.refl _ _))).mono ?_
          rintro e' w3 ⟨rfl, hb3⟩
          have B3 : Below w.heap.size w w3 := bt (ba (Below.refl _ _)) hb3
          go_wp2_with fail
          refine (HN.out _ B3).mono ?_
          rintro e' w4 ⟨rfl, hb4⟩
          have B4 : Below w.heap.size w w4 := bt B3 hb4
          have d0 := ((bcell hb4).1 w.heap.size 0 (by have := hb3.size; simp at this; omega)).trans (((bcell hb3).1 w.heap.size 0 (by simp)).trans (show _ = some (Value.int .i64 5) by simp))
          have d1 := ((bcell hb4).1 w.heap.size 1 (by have := hb3.size; simp at this; omega)).trans (((bcell hb3).1 w.heap.size 1 (by simp)).trans (show _ = some (Value.string (ba' tn)) by simp))
          clear hb3 hb4
          go_wp2
          go_ret
          exact ⟨by simp [takesF, hn], B4⟩
        · have gn := eq_no hn
          go_enter Tryd.func38, Tryd.ntmps38
          go_wp2_with fail
          refine (HK.out _ (ba (Below.refl _ _))).mono ?_
          rintro e' w3 ⟨rfl, hb3⟩
          have B3 : Below w.heap.size w w3 := bt (ba (Below.refl _ _)) hb3
          go_wp2_with fail
          refine (HN.out _ B3).mono ?_
          rintro e' w4 ⟨rfl, hb4⟩
          have B4 : Below w.heap.size w w4 := bt B3 hb4
          have d0 := ((bcell hb4).1 w.heap.size 0 (by have := hb3.size; simp at this; omega)).trans (((bcell hb3).1 w.heap.size 0 (by simp)).trans (show _ = some (Value.int .i64 5) by simp))
          have d1 := ((bcell hb4).1 w.heap.size 1 (by have := hb3.size; simp at this; omega)).trans (((bcell hb3).1 w.heap.size 1 (by simp)).trans (show _ = some (Value.string (ba' tn)) by simp))
          clear hb3 hb4
          go_wp2
          go_ret
          exact ⟨by simp [takesF, hn, he], B4⟩
    · have gk : (k == 2) = false := by simpa using hk
      have gk' : decide (k = 2) = false := by simpa using hk
      go_enter Tryd.func38, Tryd.ntmps38
      go_wp2_with fail
      refine (HK.out _ (ba (Below.refl _ _))).mono ?_
      rintro e' w3 ⟨rfl, hb3⟩
      have B3 : Below w.heap.size w w3 := bt (ba (Below.refl _ _)) hb3
      go_wp2_with fail
      refine (HN.out _ B3).mono ?_
      rintro e' w4 ⟨rfl, hb4⟩
      have B4 : Below w.heap.size w w4 := bt B3 hb4
      have d0 := ((bcell hb4).1 w.heap.size 0 (by have := hb3.size; simp at this; omega)).trans (((bcell hb3).1 w.heap.size 0 (by simp)).trans (show _ = some (Value.int .i64 5) by simp))
      have d1 := ((bcell hb4).1 w.heap.size 1 (by have := hb3.size; simp at this; omega)).trans (((bcell hb3).1 w.heap.size 1 (by simp)).trans (show _ = some (Value.string (ba' tn)) by simp))
      clear hb3 hb4
      go_wp2
      go_ret
      exact ⟨by simp [takesF, hk], B4⟩
  · have ga : (a == 3) = false := by simpa using ha
    have ga' : decide (a = 3) = false := by simpa using ha
    by_cases hk : k = 2
    · subst hk
      by_cases he : tn = []
      · have ge := isE he
        have HE := Lib.hid he
        clear he
        go_enter Tryd.func38, Tryd.ntmps38
        go_wp2_with fail
        refine (HK.out _ (ba (Below.refl _ _))).mono ?_
        rintro e' w3 ⟨rfl, hb3⟩
        have B3 : Below w.heap.size w w3 := bt (ba (Below.refl _ _)) hb3
        go_wp2_with fail
        refine (HN.out _ B3).mono ?_
        rintro e' w4 ⟨rfl, hb4⟩
        have B4 : Below w.heap.size w w4 := bt B3 hb4
        have d0 := ((bcell hb4).1 w.heap.size 0 (by have := hb3.size; simp at this; omega)).trans (((bcell hb3).1 w.heap.size 0 (by simp)).trans (show _ = some (Value.int .i64 5) by simp))
        have d1 := ((bcell hb4).1 w.heap.size 1 (by have := hb3.size; simp at this; omega)).trans (((bcell hb3).1 w.heap.size 1 (by simp)).trans (show _ = some (Value.string (ba' tn)) by simp))
        clear hb3 hb4
        go_wp2
        go_ret
        exact ⟨by simp [takesF, HE.out], B4⟩
      · have ge := isN he
        by_cases hn : nm = tn
        · have gn : ((ba' nm).toList == (ba' tn).toList) = true := by rw [hn]; exact eq_yes tn
          go_enter Tryd.func38, Tryd.ntmps38
          go_wp2_with fail
          refine (HK.out _ (ba (Below.refl _ _))).mono ?_
          rintro e' w3 ⟨rfl, hb3⟩
          have B3 : Below w.heap.size w w3 := bt (ba (Below.refl _ _)) hb3
          go_wp2_with fail
          refine (HN.out _ B3).mono ?_
          rintro e' w4 ⟨rfl, hb4⟩
          have B4 : Below w.heap.size w w4 := bt B3 hb4
          have d0 := ((bcell hb4).1 w.heap.size 0 (by have := hb3.size; simp at this; omega)).trans (((bcell hb3).1 w.heap.size 0 (by simp)).trans (show _ = some (Value.int .i64 5) by simp))
          have d1 := ((bcell hb4).1 w.heap.size 1 (by have := hb3.size; simp at this; omega)).trans (((bcell hb3).1 w.heap.size 1 (by simp)).trans (show _ = some (Value.string (ba' tn)) by simp))
          clear hb3 hb4
          go_wp2
          go_ret
          exact ⟨by simp [takesF, hn], B4⟩
        · have gn := eq_no hn
          go_enter Tryd.func38, Tryd.ntmps38
          go_wp2_with fail
          refine (HK.out _ (ba (Below.refl _ _))).mono ?_
          rintro e' w3 ⟨rfl, hb3⟩
          have B3 : Below w.heap.size w w3 := bt (ba (Below.refl _ _)) hb3
          go_wp2_with fail
          refine (HN.out _ B3).mono ?_
          rintro e' w4 ⟨rfl, hb4⟩
          have B4 : Below w.heap.size w w4 := bt B3 hb4
          have d0 := ((bcell hb4).1 w.heap.size 0 (by have := hb3.size; simp at this; omega)).trans (((bcell hb3).1 w.heap.size 0 (by simp)).trans (show _ = some (Value.int .i64 5) by simp))
          have d1 := ((bcell hb4).1 w.heap.size 1 (by have := hb3.size; simp at this; omega)).trans (((bcell hb3).1 w.heap.size 1 (by simp)).trans (show _ = some (Value.string (ba' tn)) by simp))
          clear hb3 hb4
          go_wp2
          go_ret
          exact ⟨by simp [takesF, hn, he], B4⟩
    · have gk : (k == 2) = false := by simpa using hk
      have gk' : decide (k = 2) = false := by simpa using hk
      go_enter Tryd.func38, Tryd.ntmps38
      go_wp2_with fail
      refine (HK.out _ (ba (Below.refl _ _))).mono ?_
      rintro e' w3 ⟨rfl, hb3⟩
      have B3 : Below w.heap.size w w3 := bt (ba (Below.refl _ _)) hb3
      go_wp2_with fail
      refine (HN.out _ B3).mono ?_
      rintro e' w4 ⟨rfl, hb4⟩
      have B4 : Below w.heap.size w w4 := bt B3 hb4
      have d0 := ((bcell hb4).1 w.heap.size 0 (by have := hb3.size; simp at this; omega)).trans (((bcell hb3).1 w.heap.size 0 (by simp)).trans (show _ = some (Value.int .i64 5) by simp))
      have d1 := ((bcell hb4).1 w.heap.size 1 (by have := hb3.size; simp at this; omega)).trans (((bcell hb3).1 w.heap.size 1 (by simp)).trans (show _ = some (Value.string (ba' tn)) by simp))
      clear hb3 hb4
      go_wp2
      go_ret
      exact ⟨by simp [takesF, hk], B4⟩
theorem takes_6 (sb : Nat) (n : Nat) (a k : Int) (nm tn : List UInt8) (w : World)
    (HK : Hid (∀ w1 : World, Below w.heap.size w w1 → Calls Tryd.prog 32 #[.pointer (some ⟨sb, 0, none⟩), .int .i64 (n : Int)] w1 fun e' w' => e' = .returned (.int .i64 k) ∧ Below w1.heap.size w1 w'))
    (HN : Hid (∀ w1 : World, Below w.heap.size w w1 → Calls Tryd.prog 55 #[.pointer (some ⟨sb, 0, none⟩), .int .i64 (n : Int)] w1 fun e' w' => e' = .returned (.string (ba' nm)) ∧ Below w1.heap.size w1 w')) :
    Calls Tryd.prog 38 #[.pointer (some ⟨sb, 0, none⟩), .int .i64 (n : Int), .int .i64 a, .agg #[.int .i64 6, .string (ba' tn)]] w fun e' w' => e' = .returned (.bool (takesF k nm a 6 tn)) ∧ Below w.heap.size w w' := by
  by_cases ha : a = 3
  · subst ha
    by_cases hk : k = 3
    · subst hk
      by_cases he : tn = []
      · have ge := isE he
        have HE := Lib.hid he
        clear he
        go_enter Tryd.func38, Tryd.ntmps38
        go_wp2_with fail
        refine (HK.out _ (ba (Below.refl _ _))).mono ?_
        rintro e' w3 ⟨rfl, hb3⟩
        have B3 : Below w.heap.size w w3 := bt (ba (Below.refl _ _)) hb3
        go_wp2_with fail
        refine (HN.out _ B3).mono ?_
        rintro e' w4 ⟨rfl, hb4⟩
        have B4 : Below w.heap.size w w4 := bt B3 hb4
        have d0 := ((bcell hb4).1 w.heap.size 0 (by have := hb3.size; simp at this; omega)).trans (((bcell hb3).1 w.heap.size 0 (by simp)).trans (show _ = some (Value.int .i64 6) by simp))
        have d1 := ((bcell hb4).1 w.heap.size 1 (by have := hb3.size; simp at this; omega)).trans (((bcell hb3).1 w.heap.size 1 (by simp)).trans (show _ = some (Value.string (ba' tn)) by simp))
        clear hb3 hb4
        go_wp2
        go_ret
        exact ⟨by simp [takesF, HE.out], B4⟩
      · have ge := isN he
        by_cases hn : nm = tn
        · have gn : ((ba' nm).toList == (ba' tn).toList) = true := by rw [hn]; exact eq_yes tn
          go_enter Tryd.func38, Tryd.ntmps38
          go_wp2_with fail
          refine (HK.out _ (ba (Below.refl _ _))).mono ?_
          rintro e' w3 ⟨rfl, hb3⟩
          have B3 : Below w.heap.size w w3 := bt (ba (Below.refl _ _)) hb3
          go_wp2_with fail
          refine (HN.out _ B3).mono ?_
          rintro e' w4 ⟨rfl, hb4⟩
          have B4 : Below w.heap.size w w4 := bt B3 hb4
          have d0 := ((bcell hb4).1 w.heap.size 0 (by have := hb3.size; simp at this; omega)).trans (((bcell hb3).1 w.heap.size 0 (by simp)).trans (show _ = some (Value.int .i64 6) by simp))
          have d1 := ((bcell hb4).1 w.heap.size 1 (by have := hb3.size; simp at this; omega)).trans (((bcell hb3).1 w.heap.size 1 (by simp)).trans (show _ = some (Value.string (ba' tn)) by simp))
          clear hb3 hb4
          go_wp2
          go_ret
          exact ⟨by simp [takesF, hn], B4⟩
        · have gn := eq_no hn
          go_enter Tryd.func38, Tryd.ntmps38
          go_wp2_with fail
          refine (HK.out _ (ba (Below.refl _ _))).mono ?_
          rintro e' w3 ⟨rfl, hb3⟩
          have B3 : Below w.heap.size w w3 := bt (ba (Below.refl _ _)) hb3
          go_wp2_with fail
          refine (HN.out _ B3).mono ?_
          rintro e' w4 ⟨rfl, hb4⟩
          have B4 : Below w.heap.size w w4 := bt B3 hb4
          have d0 := ((bcell hb4).1 w.heap.size 0 (by have := hb3.size; simp at this; omega)).trans (((bcell hb3).1 w.heap.size 0 (by simp)).trans (show _ = some (Value.int .i64 6) by simp))
          have d1 := ((bcell hb4).1 w.heap.size 1 (by have := hb3.size; simp at this; omega)).trans (((bcell hb3).1 w.heap.size 1 (by simp)).trans (show _ = some (Value.string (ba' tn)) by simp))
          clear hb3 hb4
          go_wp2
          go_ret
          exact ⟨by simp [takesF, hn, he], B4⟩
    · have gk : (k == 3) = false := by simpa using hk
      have gk' : decide (k = 3) = false := by simpa using hk
      go_enter Tryd.func38, Tryd.ntmps38
      go_wp2_with fail
      refine (HK.out _ (ba (Below.refl _ _))).mono ?_
      rintro e' w3 ⟨rfl, hb3⟩
      have B3 : Below w.heap.size w w3 := bt (ba (Below.refl _ _)) hb3
      go_wp2_with fail
      refine (HN.out _ B3).mono ?_
      rintro e' w4 ⟨rfl, hb4⟩
      have B4 : Below w.heap.size w w4 := bt B3 hb4
      have d0 := ((bcell hb4).1 w.heap.size 0 (by have := hb3.size; simp at this; omega)).trans (((bcell hb3).1 w.heap.size 0 (by simp)).trans (show _ = some (Value.int .i64 6) by simp))
      have d1 := ((bcell hb4).1 w.heap.size 1 (by have := hb3.size; simp at this; omega)).trans (((bcell hb3).1 w.heap.size 1 (by simp)).trans (show _ = some (Value.string (ba' tn)) by simp))
      clear hb3 hb4
      go_wp2
      go_ret
      exact ⟨by simp [takesF, hk], B4⟩
  · have ga : (a == 3) = false := by simpa using ha
    have ga' : decide (a = 3) = false := by simpa using ha
    by_cases hk : k = 3
    · subst hk
      by_cases he : tn = []
      · have ge := isE he
        have HE := Lib.hid he
        clear he
        go_enter Tryd.func38, Tryd.ntmps38
        go_wp2_with fail
        refine (HK.out _ (ba (Below.refl _ _))).mono ?_
        rintro e' w3 ⟨rfl, hb3⟩
        have B3 : Below w.heap.size w w3 := bt (ba (Below.refl _ _)) hb3
        go_wp2_with fail
        refine (HN.out _ B3).mono ?_
        rintro e' w4 ⟨rfl, hb4⟩
        have B4 : Below w.heap.size w w4 := bt B3 hb4
        have d0 := ((bcell hb4).1 w.heap.size 0 (by have := hb3.size; simp at this; omega)).trans (((bcell hb3).1 w.heap.size 0 (by simp)).trans (show _ = some (Value.int .i64 6) by simp))
        have d1 := ((bcell hb4).1 w.heap.size 1 (by have := hb3.size; simp at this; omega)).trans (((bcell hb3).1 w.heap.size 1 (by simp)).trans (show _ = some (Value.string (ba' tn)) by simp))
        clear hb3 hb4
        go_wp2
        go_ret
        exact ⟨by simp [takesF, HE.out], B4⟩
      · have ge := isN he
        by_cases hn : nm = tn
        · have gn : ((ba' nm).toList == (ba' tn).toList) = true := by rw [hn]; exact eq_yes tn
          go_enter Tryd.func38, Tryd.ntmps38
          go_wp2_with fail
          refine (HK.out _ (ba (Below.refl _ _))).mono ?_
          rintro e' w3 ⟨rfl, hb3⟩
          have B3 : Below w.heap.size w w3 := bt (ba (Below.refl _ _)) hb3
          go_wp2_with fail
          refine (HN.out _ B3).mono ?_
          rintro e' w4 ⟨rfl, hb4⟩
          have B4 : Below w.heap.size w w4 := bt B3 hb4
          have d0 := ((bcell hb4).1 w.heap.size 0 (by have := hb3.size; simp at this; omega)).trans (((bcell hb3).1 w.heap.size 0 (by simp)).trans (show _ = some (Value.int .i64 6) by simp))
          have d1 := ((bcell hb4).1 w.heap.size 1 (by have := hb3.size; simp at this; omega)).trans (((bcell hb3).1 w.heap.size 1 (by simp)).trans (show _ = some (Value.string (ba' tn)) by simp))
          clear hb3 hb4
          go_wp2
          go_ret
          exact ⟨by simp [takesF, hn], B4⟩
        · have gn := eq_no hn
          go_enter Tryd.func38, Tryd.ntmps38
          go_wp2_with fail
          refine (HK.out _ (ba (Below.refl _ _))).mono ?_
          rintro e' w3 ⟨rfl, hb3⟩
          have B3 : Below w.heap.size w w3 := bt (ba (Below.refl _ _)) hb3
          go_wp2_with fail
          refine (HN.out _ B3).mono ?_
          rintro e' w4 ⟨rfl, hb4⟩
          have B4 : Below w.heap.size w w4 := bt B3 hb4
          have d0 := ((bcell hb4).1 w.heap.size 0 (by have := hb3.size; simp at this; omega)).trans (((bcell hb3).1 w.heap.size 0 (by simp)).trans (show _ = some (Value.int .i64 6) by simp))
          have d1 := ((bcell hb4).1 w.heap.size 1 (by have := hb3.size; simp at this; omega)).trans (((bcell hb3).1 w.heap.size 1 (by simp)).trans (show _ = some (Value.string (ba' tn)) by simp))
          clear hb3 hb4
          go_wp2
          go_ret
          exact ⟨by simp [takesF, hn, he], B4⟩
    · have gk : (k == 3) = false := by simpa using hk
      have gk' : decide (k = 3) = false := by simpa using hk
      go_enter Tryd.func38, Tryd.ntmps38
      go_wp2_with fail
      refine (HK.out _ (ba (Below.refl _ _))).mono ?_
      rintro e' w3 ⟨rfl, hb3⟩
      have B3 : Below w.heap.size w w3 := bt (ba (Below.refl _ _)) hb3
      go_wp2_with fail
      refine (HN.out _ B3).mono ?_
      rintro e' w4 ⟨rfl, hb4⟩
      have B4 : Below w.heap.size w w4 := bt B3 hb4
      have d0 := ((bcell hb4).1 w.heap.size 0 (by have := hb3.size; simp at this; omega)).trans (((bcell hb3).1 w.heap.size 0 (by simp)).trans (show _ = some (Value.int .i64 6) by simp))
      have d1 := ((bcell hb4).1 w.heap.size 1 (by have := hb3.size; simp at this; omega)).trans (((bcell hb3).1 w.heap.size 1 (by simp)).trans (show _ = some (Value.string (ba' tn)) by simp))
      clear hb3 hb4
      go_wp2
      go_ret
      exact ⟨by simp [takesF, hk], B4⟩
theorem takes_x (sb : Nat) (n : Nat) (a k tk : Int) (nm tn : List UInt8) (w : World)
    (HK : Hid (∀ w1 : World, Below w.heap.size w w1 → Calls Tryd.prog 32 #[.pointer (some ⟨sb, 0, none⟩), .int .i64 (n : Int)] w1 fun e' w' => e' = .returned (.int .i64 k) ∧ Below w1.heap.size w1 w'))
    (HN : Hid (∀ w1 : World, Below w.heap.size w w1 → Calls Tryd.prog 55 #[.pointer (some ⟨sb, 0, none⟩), .int .i64 (n : Int)] w1 fun e' w' => e' = .returned (.string (ba' nm)) ∧ Below w1.heap.size w1 w')) (ht : ¬ (0 ≤ tk ∧ tk ≤ 7)) :
    Calls Tryd.prog 38 #[.pointer (some ⟨sb, 0, none⟩), .int .i64 (n : Int), .int .i64 a, .agg #[.int .i64 tk, .string (ba' tn)]] w fun e' w' => e' = .returned (.bool (takesF k nm a tk tn)) ∧ Below w.heap.size w w' := by
  have gt0 : (tk == 0) = false := by simpa using (by omega : ¬ tk = 0)
  have gu0 : decide (tk = 0) = false := by simpa using (by omega : ¬ tk = 0)
  have ht0 : ¬ tk = 0 := by omega
  have gt1 : (tk == 1) = false := by simpa using (by omega : ¬ tk = 1)
  have gu1 : decide (tk = 1) = false := by simpa using (by omega : ¬ tk = 1)
  have ht1 : ¬ tk = 1 := by omega
  have gt2 : (tk == 2) = false := by simpa using (by omega : ¬ tk = 2)
  have gu2 : decide (tk = 2) = false := by simpa using (by omega : ¬ tk = 2)
  have ht2 : ¬ tk = 2 := by omega
  have gt3 : (tk == 3) = false := by simpa using (by omega : ¬ tk = 3)
  have gu3 : decide (tk = 3) = false := by simpa using (by omega : ¬ tk = 3)
  have ht3 : ¬ tk = 3 := by omega
  have gt4 : (tk == 4) = false := by simpa using (by omega : ¬ tk = 4)
  have gu4 : decide (tk = 4) = false := by simpa using (by omega : ¬ tk = 4)
  have ht4 : ¬ tk = 4 := by omega
  have gt5 : (tk == 5) = false := by simpa using (by omega : ¬ tk = 5)
  have gu5 : decide (tk = 5) = false := by simpa using (by omega : ¬ tk = 5)
  have ht5 : ¬ tk = 5 := by omega
  have gt6 : (tk == 6) = false := by simpa using (by omega : ¬ tk = 6)
  have gu6 : decide (tk = 6) = false := by simpa using (by omega : ¬ tk = 6)
  have ht6 : ¬ tk = 6 := by omega
  have gt7 : (tk == 7) = false := by simpa using (by omega : ¬ tk = 7)
  have gu7 : decide (tk = 7) = false := by simpa using (by omega : ¬ tk = 7)
  have ht7 : ¬ tk = 7 := by omega
  by_cases ha : a = 3
  · subst ha
    go_enter Tryd.func38, Tryd.ntmps38
    go_wp2_with fail
    refine (HK.out _ (ba (Below.refl _ _))).mono ?_
    rintro e' w3 ⟨rfl, hb3⟩
    have B3 : Below w.heap.size w w3 := bt (ba (Below.refl _ _)) hb3
    go_wp2_with fail
    refine (HN.out _ B3).mono ?_
    rintro e' w4 ⟨rfl, hb4⟩
    have B4 : Below w.heap.size w w4 := bt B3 hb4
    have d0 := ((bcell hb4).1 w.heap.size 0 (by have := hb3.size; simp at this; omega)).trans (((bcell hb3).1 w.heap.size 0 (by simp)).trans (show _ = some (Value.int .i64 tk) by simp))
    have d1 := ((bcell hb4).1 w.heap.size 1 (by have := hb3.size; simp at this; omega)).trans (((bcell hb3).1 w.heap.size 1 (by simp)).trans (show _ = some (Value.string (ba' tn)) by simp))
    clear hb3 hb4
    go_wp2
    go_ret
    exact ⟨by simp [takesF, ht0, ht1, ht2, ht3, ht4, ht5, ht6, ht7], B4⟩
  · have ga : (a == 3) = false := by simpa using ha
    have ga' : decide (a = 3) = false := by simpa using ha
    go_enter Tryd.func38, Tryd.ntmps38
    go_wp2_with fail
    refine (HK.out _ (ba (Below.refl _ _))).mono ?_
    rintro e' w3 ⟨rfl, hb3⟩
    have B3 : Below w.heap.size w w3 := bt (ba (Below.refl _ _)) hb3
    go_wp2_with fail
    refine (HN.out _ B3).mono ?_
    rintro e' w4 ⟨rfl, hb4⟩
    have B4 : Below w.heap.size w w4 := bt B3 hb4
    have d0 := ((bcell hb4).1 w.heap.size 0 (by have := hb3.size; simp at this; omega)).trans (((bcell hb3).1 w.heap.size 0 (by simp)).trans (show _ = some (Value.int .i64 tk) by simp))
    have d1 := ((bcell hb4).1 w.heap.size 1 (by have := hb3.size; simp at this; omega)).trans (((bcell hb3).1 w.heap.size 1 (by simp)).trans (show _ = some (Value.string (ba' tn)) by simp))
    clear hb3 hb4
    go_wp2
    go_ret
    exact ⟨by simp [takesF, ht0, ht1, ht2, ht3, ht4, ht5, ht6, ht7], B4⟩
theorem takes_any {sb lim : Nat} {A : Option Addr} {c : Nat} {L : List En} {w : World} (hS : StoreAt w sb lim A c L) (hL : L.length ≤ 1048576) (n : Nat) (a tk : Int) (tn : List UInt8) :
    Calls Tryd.prog 38 #[.pointer (some ⟨sb, 0, none⟩), .int .i64 (n : Int), .int .i64 a, .agg #[.int .i64 tk, .string (ba' tn)]] w fun e' w' => e' = .returned (.bool (takesF (kdN L n) (nmN L n) a tk tn)) ∧ Below w.heap.size w w' := by
  have HK := Lib.hid (fun (w1 : World) (hb1 : Below w.heap.size w w1) => kindC (hS.below hb1) hL n)
  have HN := Lib.hid (fun (w1 : World) (hb1 : Below w.heap.size w w1) => nameC (hS.below hb1) hL n)
  by_cases ht : 0 ≤ tk ∧ tk ≤ 7
  · have : tk = 0 ∨ tk = 1 ∨ tk = 2 ∨ tk = 3 ∨ tk = 4 ∨ tk = 5 ∨ tk = 6 ∨ tk = 7 := by omega
    rcases this with rfl | rfl | rfl | rfl | rfl | rfl | rfl | rfl
    · exact takes_0 sb n a _ _ tn w HK HN
    · exact takes_1 sb n a _ _ tn w HK HN
    · exact takes_2 sb n a _ _ tn w HK HN
    · exact takes_3 sb n a _ _ tn w HK HN
    · exact takes_4 sb n a _ _ tn w HK HN
    · exact takes_5 sb n a _ _ tn w HK HN
    · exact takes_6 sb n a _ _ tn w HK HN
    · exact takes_7 sb n a _ _ tn w HK HN
  · exact takes_x sb n a _ tk _ tn w HK HN ht
end Go.Proofs.YtcmlfkoeajpliaaDoor
namespace Go.Proofs.YtcmlfkoeajpliaaDoor
open Go.RowKit Go.Lib Go.Shelf
set_option maxRecDepth 100000
set_option maxHeartbeats 8000000
attribute [local go_sem] Oper.semAt_some
theorem keepsOthers_below {W W' : World} (h : Below W.heap.size W W') : KeepsOthers W W' := ⟨h.size, fun k _o hk _ => (h.block k (Array.getElem?_eq_some_iff.1 hk).1).trans hk⟩
theorem stepEnd {w w5 W : World} {H : Nat} {A : Option Addr} {c D : Nat} {l : List Nat} {o : Obj} (B5 : Below w.heap.size w w5) (hH : w5.heap.size = H) (z5 : w.heap.size + 4 ≤ H) (hG : GrowI H (w.heap.size + 3) w5 W A c l) (hD : H ≤ D) (hK : W.heap[D]? = some (.deferred (some []))) :
    RdP (NewB w (W.putObj D o)) (W.putObj D o) 1 A l.length (rowI l) ∧ Below w.heap.size w (W.putObj D o) := by
  have hbk : Below w.heap.size w5 W := ⟨hG.keep.1, hG.keep.2.1, hG.keep.2.2.1, hG.keep.2.2.2.1, fun b hb => hG.keep.2.2.2.2 b (by omega) (by omega)⟩
  have ho := ownsRow_putObj hG.own o hK rfl
  refine ⟨?_, B5.trans (hbk.trans (belowK_b (w := w5) (by omega) W D _ o (by omega) hK rfl rfl))⟩
  obtain ⟨A0, c0, e0, _, hrd⟩ := own_rd ho
  cases e0
  exact hrd.keep (fun b hb => by have h1 := own_lt ho hb; exact ⟨by omega, h1.2⟩) (fun _ _ => rfl)
theorem step_any {sb lim : Nat} {A : Option Addr} {c : Nat} {L : List En} {w : World} (hS : StoreAt w sb lim A c L) (hL : L.length ≤ 1048576) (hO : Ord L.length (kdN L) (prN L) (enN L)) (n : Nat) (a tk : Int) (tn : List UInt8) (xs : List Nat) (hxs : axL L.length (kdN L) (prN L) (enN L) n a = xs) (hxl : xs.length ≤ 1048576)
    (T : Nat → Bool) (hT : ∀ m, takesF (kdN L m) (nmN L m) a tk tn = T m) :
    Calls Tryd.prog 40 #[.pointer (some ⟨sb, 0, none⟩), .int .i64 (n : Int), .int .i64 a, .agg #[.int .i64 tk, .string (ba' tn)]] w fun e w' => ∃ A c, e = .returned (.slice A (xs.filter T).length c) ∧ RdP (NewB w w') w' 1 A (xs.filter T).length (rowI (xs.filter T)) ∧ Below w.heap.size w w' := by
  have HW : Hid (∀ w1 : World, Below w.heap.size w w1 → Calls Tryd.prog 65 #[.pointer (some ⟨sb, 0, none⟩), .int .i64 (n : Int), .int .i64 a] w1 fun e w' => ∃ v, e = .returned v ∧ IterV w1 w' sb lim A c L xs v ∧ Below w1.heap.size w1 w') := Lib.hid fun w1 hb1 => by
    rw [← hxs]; exact walk_any (hS.below hb1) hL hO n a
  have HTK : Hid (∀ (w1 : World) (m : Nat), StoreAt w1 sb lim A c L → Calls Tryd.prog 38 #[.pointer (some ⟨sb, 0, none⟩), .int .i64 (m : Int), .int .i64 a, .agg #[.int .i64 tk, .string (ba' tn)]] w1 fun e w' => e = .returned (.bool (T m)) ∧ Below w1.heap.size w1 w') := Lib.hid fun w1 m h1 => by
    rw [← hT]; exact takes_any h1 hL m a tk tn
  have hsl := hS.1
  have hAl : ∀ b, blkOf A = some b → b < w.heap.size := fun b hb => (StoreAt.lt hS hb).2
  obtain ⟨i3, hi3, hz30, hz31, hz32⟩ := info_parts int_info
  have HS := Lib.hid hS
  clear hS hxs hT
  refine (callsIn_wide (n := 8)).1 ?_
  refine callsIn_of_wp_marks Tryd.func40 rfl trivial ?_ rfl
  simp only [Tryd.ntmps40, List.size_toArray, List.length_cons, List.length_nil, Nat.reduceAdd, Nat.reduceSub, Array.replicate_succ, Array.replicate_zero, List.push_toArray, List.append_toArray, List.nil_append, List.cons_append]
  gi_wp2_with fail
  refine ⟨trivial, ?_⟩
  refine (callsIn_wide.2 (HW.out _ (ba (ba (ba (ba (Below.refl _ _))))))).mono ?_
  rintro e w5 ⟨v, rfl, ⟨first, f, fa, fst, ⟨b1, b2, rfl, hb1, hb2, c1, c2⟩, hc, hP⟩, hb5⟩
  have B5 : Below w.heap.size w w5 := bt (ba (ba (ba (ba (Below.refl _ _))))) hb5
  have z5 : w.heap.size + 4 ≤ w5.heap.size := by have := hb5.size; simp at this; omega
  have q0 : Blk w5 w.heap.size 24 #[.pointer (some ⟨sb, 0, none⟩)] := ((((Blk.new w 24 #[.pointer (some ⟨sb, 0, none⟩)]).alloc _).alloc _).alloc _).below hb5 (by simp; omega)
  have q1 : Blk w5 (w.heap.size + 1) 54 #[.int .i64 a] := by
    have := ((Blk.new (w.alloc (.cells #[.pointer (some ⟨sb, 0, none⟩)] 24)) 54 #[.int .i64 a]).alloc (.cells #[.int .i64 tk, .string (ba' tn)] 64)).alloc (.cells #[.slice none 0 0] 55)
    simp only [World.size_alloc] at this
    exact this.below hb5 (by simp)
  have q2 : Blk w5 (w.heap.size + 2) 64 #[.int .i64 tk, .string (ba' tn)] := by
    have := (Blk.new ((w.alloc (.cells #[.pointer (some ⟨sb, 0, none⟩)] 24)).alloc (.cells #[.int .i64 a] 54)) 64 #[.int .i64 tk, .string (ba' tn)]).alloc (.cells #[.slice none 0 0] 55)
    simp only [World.size_alloc] at this
    exact this.below hb5 (by simp)
  have p0 := q0.cell 0
  have p1 := q1.cell 0
  have p2 := q2.cell 0
  have p3 := q2.cell 1
  simp only [List.getElem?_toArray, List.getElem?_cons_zero, List.getElem?_cons_succ] at p0 p1 p2 p3
  have bO : Blk w5 (w.heap.size + 3) 55 #[.slice none 0 0] := by
    have := Blk.new (((w.alloc (.cells #[.pointer (some ⟨sb, 0, none⟩)] 24)).alloc (.cells #[.int .i64 a] 54)).alloc (.cells #[.int .i64 tk, .string (ba' tn)] 64)) 55 #[.slice none 0 0]
    simp only [World.size_alloc] at this
    exact this.below hb5 (by simp)
  simp at hb1 hb2
  have hS5 := HS.out.below B5
  have HSEQ := Lib.hid (iter_stops 7 (by omega) hS5 c1 c2 hc hP (show sb ≠ w.heap.size + 3 by omega) (fun b hb => by have := hAl b hb; omega) (by omega) (by omega))
  clear hb5 HW
  gi_wp2
  obtain ⟨H, hH⟩ : ∃ H, w5.heap.size = H := ⟨_, rfl⟩
  rw [hH] at z5 HSEQ
  have HTW : Hid (∀ (W W1 : World) (m : Nat), Keep H (w.heap.size + 3) w5 W → Below W.heap.size W W1 → Calls Tryd.prog 38 #[.pointer (some ⟨sb, 0, none⟩), .int .i64 (m : Int), .int .i64 a, .agg #[.int .i64 tk, .string (ba' tn)]] W1 fun e w' => e = .returned (.bool (T m)) ∧ Below W1.heap.size W1 w') :=
    Lib.hid fun W W1 m hk hb => HTK.out W1 m ((hS5.keep hk (by omega) (by omega) (fun b hb => by have := hAl b hb; omega)).below hb)
  refine wpIn_rangeFunc_ownG rfl (by omega) (gf := 108) (lb := #[.pointer (some ⟨b1, 0, none⟩), .pointer (some ⟨b2, 0, none⟩)]) rfl trivial (enters_of Tryd.func108 (by kernel_rfl) rfl)
    HSEQ.out (fun h k => h.trans k) (fun W l o o' hl h h1 h2 => keep_turn W l o o' hl (by omega) h h1 h2) (Below.refl _ _) (fun _ => rfl)
    (fun pre W => ∃ A c, GrowI H (w.heap.size + 3) w5 W A c (pre.filter T))
    (fun _ _ _ => False)
    ?hI (fun _ _ _ _ _ hs _ _ => hs) ⟨none, 0, ?h0⟩
    (fun x => { tmps := #[.pointer (some ⟨sb, 0, none⟩), .int .i64 (n : Int), .int .i64 a, .agg #[.int .i64 tk, .string (ba' tn)], .pointer (some ⟨w.heap.size, 0, none⟩), undef, .pointer (some ⟨w.heap.size + 1, 0, none⟩), .pointer (some ⟨w.heap.size + 2, 0, none⟩), .slice none 0 0, .pointer (some ⟨w.heap.size + 3, 0, none⟩), .int .i64 (x : Int), .pointer (some ⟨sb, 0, none⟩), .int .i64 (n : Int), .int .i64 a, .func (.func 108) #[] #[.pointer (some ⟨b1, 0, none⟩), .pointer (some ⟨b2, 0, none⟩)], .int .i64 (x : Int), undef, undef, undef, undef, undef, undef, undef, undef, undef, undef], defers := [] }) ?assign ?body ?done ?stop
  case hI =>
    rintro s W W' row ⟨A1, c1, hG⟩ hg hr
    exact ⟨A1, c1, hG.turn hg (by rw [hH] at hr; exact hr)⟩
  case h0 =>
    exact ⟨Keep.refl _ _ _, by omega, by omega, World.ownsRow_nil _ _ _ _, bO⟩
  case assign =>
    intro l x W K hK
    gi_wp2
    exact hK
  case body =>
    rintro l pre x W ⟨A1, c1', hG⟩ hlt
    have e0 := (hG.keep.cell (p := ⟨w.heap.size, 0, none⟩) (show w.heap.size < H by omega) (show w.heap.size ≠ w.heap.size + 3 by omega)).trans p0
    have e1 := (hG.keep.cell (p := ⟨w.heap.size + 1, 0, none⟩) (show w.heap.size + 1 < H by omega) (show w.heap.size + 1 ≠ w.heap.size + 3 by omega)).trans p1
    have e2 := (hG.keep.cell (p := ⟨w.heap.size + 2, 0, none⟩) (show w.heap.size + 2 < H by omega) (show w.heap.size + 2 ≠ w.heap.size + 3 by omega)).trans p2
    have e3 := (hG.keep.cell (p := ⟨w.heap.size + 2, 1, none⟩) (show w.heap.size + 2 < H by omega) (show w.heap.size + 2 ≠ w.heap.size + 3 by omega)).trans p3
    have HCX := Lib.hid (HTW.out W W x hG.keep (Below.refl _ _))
    have HG := Lib.hid hG
    have hple : (pre.filter T).length ≤ pre.length := List.length_filter_le _ _
    obtain ⟨b, hb⟩ : ∃ b, T x = b := ⟨_, rfl⟩
    rw [hb] at HCX
    have HB := Lib.hid hb
    have h1 : 1 ≤ 8 - 1 - 1 := by omega
    clear hG hb
    gi_wp2_with fail
    refine ⟨trivial, ?_⟩
    refine (CallsIn.inRound l (callsIn_wide.2 HCX.out)).mono ?_
    rintro e w1 ⟨rfl, hb1⟩
    have hG1 := HG.out.below hb1
    have hk1 : KeepsOthers W w1 := keepsOthers_below hb1
    have hp1 : Keep H (w.heap.size + 3) W w1 := (Keep.refl _ _ _).below hb1 HG.out.big
    cases b with
    | false =>
      have e : (pre ++ [x]).filter T = pre.filter T := by rw [List.filter_append]; simp [HB.out]
      have HX := Lib.hid (⟨hk1.from _, hp1, A1, c1', by rw [e]; exact hG1⟩ : KeepsFrom w5.heap.size W w1 ∧ Keep H (w.heap.size + 3) W w1 ∧ ∃ A c, GrowI H (w.heap.size + 3) w5 w1 A c ((pre ++ [x]).filter T))
      clear hG1 hk1 hp1 e hb1
      gi_wp2
      exact HX.out
    | true =>
      have e : (pre ++ [x]).filter T = pre.filter T ++ [x] := by rw [List.filter_append]; simp [HB.out]
      have hc0 := hG1.box.cell 0
      have hf0 := hG1.box.frozen 0
      simp only [List.getElem?_toArray, List.getElem?_cons_zero] at hc0
      have hrow := hG1.own
      have hbig := hG1.big
      have HG1 := Lib.hid hG1; have HK1 := Lib.hid hk1; have HP1 := Lib.hid hp1; have HE := Lib.hid e
      clear hG1 hk1 hp1 e hb1
      gi_wp2_with (first
        | (gi_at_builtin; refine wpListIn_append_own _ rfl _ _ 55 rfl H 3 i3 (.int .i64 0) 1 8 Tryd.underlying55 hi3 hz30 hz31 hz32 rfl (by decide) _ _ _ rfl (World.ownsRow.alloc hrow _) ⟨w1.heap.size, 0, none⟩ 1 1 [.int .i64 (x : Int)] rfl rfl (cell_one_new _ _ _) (by simp [Value.oneCell']) (by simp only [maxLen]; omega) (by omega) (by simp; omega) ?_; intro v' w2 hown' hgrow _; obtain ⟨g', cap', rfl⟩ := ownsRow_succ hown'; obtain ⟨q1, q2, q3, q4, q5⟩ := HG1.out.more hown' hgrow; have hc1 := q4.cell 0; have hf1 := q4.frozen 0; simp only [List.getElem?_toArray, List.getElem?_cons_zero] at hc1; have Q1 := Lib.hid q1; have Q2 := Lib.hid q2; have Q3 := Lib.hid q3; clear q1 q2 q3 q4 q5 hown' hgrow))
      exact ⟨(HK1.out.trans Q2.out).from _, HP1.out.trans Q3.out, _, _, by rw [HE.out]; exact Q1.out⟩
  case done =>
    rintro D ys W hD rfl ⟨A1, c1', hG⟩ hK
    have hc0 := hG.box.cell 0
    simp only [List.getElem?_toArray, List.getElem?_cons_zero] at hc0
    have HF := Lib.hid (fun (o : Obj) => stepEnd (w := w) (o := o) B5 hH z5 hG (by omega) hK)
    clear hG
    gi_wp2
    refine ⟨by simp, .inl ⟨_, _, rfl, run_takeDeferred hK, ?_⟩⟩
    refine ⟨_, results_tmp rfl _ _ _, ?_⟩
    exact ⟨A1, c1', rfl, (HF.out _).1, (HF.out _).2⟩
  case stop =>
    rintro D c pre W hD hpre h _
    exact h.elim
end Go.Proofs.YtcmlfkoeajpliaaDoor
