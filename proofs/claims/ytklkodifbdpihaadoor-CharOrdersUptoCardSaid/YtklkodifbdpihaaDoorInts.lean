/- The reference compares two rows of numbers. No condition beyond what the theorems state. -/
import Derived.Test.YtklkodifbdpihaaDoorPointsAny
import Derived.Deep.Draws
namespace Go.Proofs.YtklkodifbdpihaaDoor
open Go.RowKit Go.Lib
set_option maxRecDepth 100000
/-- a slice's cells read as these numbers -/
def intsAt (w : World) (A : Option Addr) (n : Nat) (xs : List Int) : Prop := xs.length = n ∧ ∀ k, k < n → ∃ g o, A = some ⟨g, o, none⟩ ∧ w.cell? ⟨g, o + k, none⟩ = some (.int .i64 (xs.getD k 0))
theorem eq_of_getD (xs ys : List Int) (h : xs.length = ys.length) (h2 : ∀ j, j < xs.length → xs.getD j 0 = ys.getD j 0) : xs = ys := by
  apply List.ext_getElem h
  intro j h3 h4
  have := h2 j h3
  rwa [List.getD_eq_getElem?_getD, List.getD_eq_getElem?_getD, List.getElem?_eq_getElem h3, List.getElem?_eq_getElem h4] at this
def intsRel (w : World) (xs ys : List Int) (n : Nat) (i : Value) (wx : World) : Prop := ∃ k q : Nat, k ≤ n ∧ i = .int .i64 k ∧ wx = w.drewN q ∧ ∀ j, j < k → xs.getD j 0 = ys.getD j 0
def intsPost (w : World) (b : Bool) (e : Ending) (w' : World) : Prop := e = .returned (.bool b) ∧ ∃ q, w' = w.drewN q
set_option maxHeartbeats 2000000 in
theorem ints_any (A A' : Option Addr) (n m c c' : Nat) (xs ys : List Int) (w : World) (hn : n ≤ 1099511627776) (hm : m ≤ 1099511627776) (hx : intsAt w A n xs) (hy : intsAt w A' m ys) :
    Calls Tryd.prog 19 #[.slice A n c, .slice A' m c'] w (intsPost w (decide (xs = ys))) := by
  obtain ⟨lx, cx⟩ := hx
  obtain ⟨ly, cy⟩ := hy
  have HX := Lib.hid cx
  have HY := Lib.hid cy
  have LX := Lib.hid lx
  have LY := Lib.hid ly
  clear cx cy lx ly
  by_cases hnm : n = m
  · subst hnm
    have hnn : ((n : Int) != (n : Int)) = false := by simp
    go_enter Tryd.func19, Tryd.ntmps19
    go_wp2
    go_loopw [5] (fun i wx => intsRel w xs ys n i wx) (fun i _ => n - (intOf i).toNat)
    case atStart => exact ⟨0, 0, Nat.zero_le _, rfl, rfl, fun j hj => absurd hj (by omega)⟩
    case round =>
      obtain ⟨k, q, hk, rfl, rfl, hall⟩ := hrel
      have HA := Lib.hid hall
      clear hall
      by_cases hlt : k < n
      · obtain ⟨g, o, rfl, h1⟩ := HX.out k hlt
        obtain ⟨g', o', rfl, h2⟩ := HY.out k hlt
        have hi1 : (k : Int) < (n : Int) := by omega
        have hi0 : (0 : Int) ≤ (k : Int) := by omega
        obtain ⟨x, hx⟩ : ∃ x, xs.getD k 0 = x := ⟨_, rfl⟩
        obtain ⟨y, hy⟩ : ∃ y, ys.getD k 0 = y := ⟨_, rfl⟩
        rw [hx] at h1
        rw [hy] at h2
        by_cases hxy : x = y
        · subst hxy
          have hts : Hid (∀ j, j < k + 1 → xs.getD j 0 = ys.getD j 0) := Lib.hid fun j hj => by
            by_cases e : j = k
            · subst e; rw [hx, hy]
            · exact HA.out j (by omega)
          clear hx hy
          go_wp2
          go_quiet (fail)
          go_wp2
          go_roundw
          case rel => exact ⟨k + 1, q + _, by omega, by go_num, rfl, hts.out⟩
          case measure => simp [intOf]; omega
        · have F : Hid (decide (xs = ys) = false) := Lib.hid (by
            rw [decide_eq_false_iff_not]; intro e; apply hxy; rw [← hx, ← hy, e])
          have hne : (x != y) = true := by simpa using hxy
          clear hx hy hxy
          go_wp2
          go_quiet (fail)
          go_wp2
          go_ret
          exact ⟨ret_bool F.out.symm, _, World.drewN_drewN _ _ _⟩
      · obtain rfl : k = n := by omega
        have F : Hid (decide (xs = ys) = true) := Lib.hid (by
          rw [decide_eq_true_iff]; exact eq_of_getD xs ys (by rw [LX.out, LY.out]) (fun j hj => HA.out j (by rw [← LX.out]; exact hj)))
        go_wp2
        go_ret
        exact ⟨ret_bool F.out.symm, q, rfl⟩
  · have F : Hid (decide (xs = ys) = false) := Lib.hid (by
      rw [decide_eq_false_iff_not]; intro e; apply hnm; rw [← LX.out, ← LY.out, e])
    have hnn : ((n : Int) != (m : Int)) = true := by simp; omega
    go_enter Tryd.func19, Tryd.ntmps19
    go_wp2
    go_ret
    exact ⟨ret_bool F.out.symm, 0, rfl⟩
end Go.Proofs.YtklkodifbdpihaaDoor
