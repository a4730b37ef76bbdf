/- Trees that are few in nodes. No condition beyond what the theorems state. -/
import Derived.Test.YtnkodafhjcjpjaaDoorCopies
import Derived.Test.YtnkodafhjcjpjaaDoorDeep
namespace Go.Proofs.YtnkodafhjcjpjaaDoor
open Go.RowKit Go.Lib
set_option maxRecDepth 100000
set_option maxHeartbeats 8000000
/-- A word; when it is yes, the trees are small. -/
def Smalls (L : List Tr) (w : World) (e : Ending) (w' : World) : Prop := ∃ r, e = .returned (.bool r) ∧ (r = true → ∀ t ∈ L, t.pl.size ≤ 400) ∧ Below w.heap.size w w'
theorem Smalls.it {L : List Tr} {w w' : World} {r : Bool} (h : r = true → ∀ t ∈ L, t.pl.size ≤ 400) (hb : Below w.heap.size w w') : Smalls L w (.returned (.bool r)) w' := ⟨r, rfl, h, hb⟩
theorem few_any (P : Nat → Prop) (K : Option Addr) (n c : Nat) (L : List Tr) (w : World) (hP : ∀ b, P b → b < w.heap.size) (hR : RdP P w 5 K n (rowT L)) (hL : InL P w L) (hn : L.length = n) (hn1 : n ≤ 1048576) (hle : ∀ t ∈ L, t.pl.lens) :
    Calls Tryd.prog 12 #[.int .i64 400, .slice K n c] w fun e w' => Smalls L w e w' := by
  have HK := Lib.hid hR; have HL := Lib.hid hL; have HP := Lib.hid hP; have HN := Lib.hid hn; have HLE := Lib.hid hle
  clear hR hL hP hn hle
  go_enter Tryd.func12, Tryd.ntmps12
  go_wp2
  go_loopw [5, 6] (fun s5 s6 wx => ∃ (i : Nat) (l : Int), s6 = .int .i64 i ∧ s5 = .int .i64 l ∧ i ≤ n ∧ -9223372036854775808 ≤ l ∧ l ≤ 400 ∧ Hid (0 ≤ l → ∀ t ∈ L.take i, t.pl.size ≤ 400) ∧ Below w.heap.size w wx) (fun _ s6 _ => n - (intOf s6).toNat)
  case atStart => exact ⟨0, 400, rfl, rfl, by omega, by omega, by omega, Lib.hid (by simp), Below.refl _ _⟩
  case round =>
    obtain ⟨i, l, rfl, rfl, hi, hl0, hl1, hrel, hBW⟩ := hrel
    by_cases hlt : i < n
    · by_cases hl : 0 ≤ l
      · have g0 : decide ((i : Int) < (n : Int)) = true := by first | (simp; done) | (simp; omega)
        have g1 : decide (0 ≤ l) = true := by simpa using hl
        have g2 : decide (l ≥ 0) = true := by simpa using hl
        have hil : i < L.length := by rw [HN.out]; exact hlt
        obtain ⟨t, ht⟩ : ∃ t, L[i]? = some t := ⟨_, List.getElem?_eq_getElem hil⟩
        have htm := List.mem_of_getElem? ht
        have hin' := (inL_iff.1 HL.out t htm).below HP.out hBW
        have hbk := HLE.out t htm
        have hge := parts_low t.pl l hbk hl
        have hle := parts_le t.pl l
        have HS : Hid (0 ≤ t.pl.parts l → ∀ x ∈ L.take (i + 1), x.pl.size ≤ 400) := Lib.hid (by
          intro h0 x hx
          rw [List.take_add_one, ht] at hx
          rcases List.mem_append.1 hx with hx | hx
          · exact hrel.out hl x hx
          · obtain rfl : x = t := by simpa using hx
            rcases Nat.lt_or_ge 400 x.pl.size with h | h
            · have := parts_many x.pl l (by omega); omega
            · exact h)
        have HC := Lib.hid (fun w1 hb1 => parts_any t P w1 l (hin'.below (fun b hb => Nat.lt_of_lt_of_le (HP.out b hb) hBW.size) hb1) (fun b hb => Nat.lt_of_lt_of_le (Nat.lt_of_lt_of_le (HP.out b hb) hBW.size) (Below.size hb1)) hbk hl (by omega))
        obtain ⟨k', n', v', A', ac', ps', K', kc', ks'⟩ := t
        have hka := HK.out.below HP.out hBW
        obtain ⟨ad, rfl, hPad, d0, d1, d2, d3, d4⟩ := kid_at hka ht hlt
        obtain ⟨l2, hl2⟩ : ∃ l2, (Tr.mk k' n' v' A' ac' ps' K' kc' ks').pl.parts l = l2 := ⟨_, rfl⟩
        rw [hl2] at HC HS hge hle
        obtain ⟨np', hnp'⟩ : ∃ q, ps'.length = q := ⟨_, rfl⟩
        obtain ⟨nk', hnk'⟩ : ∃ q, ks'.length = q := ⟨_, rfl⟩
        simp only [Tr.v] at HC
        rw [hnp', hnk'] at HC
        rw [hnp'] at d3
        rw [hnk'] at d4
        clear hrel hin' hka hl2 ht htm hil hnp' hnk' hbk
        go_wp2_with (go_at_call 24; go_must (refine (HC.out _ (Below.refl _ _)).mono ?_); rintro e w1 ⟨rfl, hb1⟩)
        go_roundw
        case rel => exact ⟨i + 1, l2, by go_num, rfl, by omega, by omega, by omega, HS, by repeat (with_reducible (first | exact Below.refl _ _ | assumption | apply ba | apply bd | apply bdr | (refine bs ?_ (by first | assumption | (simp; done) | (simp; omega))) | (refine bt ?_ (by assumption))))⟩
        case measure => simp [intOf]; omega
      · have g0 : decide ((i : Int) < (n : Int)) = true := by first | (simp; done) | (simp; omega)
        have g1 : decide (0 ≤ l) = false := by simpa using hl
        have g2 : decide (l ≥ 0) = false := by simpa using hl
        go_wp2
        go_ret
        exact Smalls.it (fun h => by cases h) hBW
    · obtain rfl : i = n := by omega
      have g0 : decide (((i : Nat) : Int) < ((i : Nat) : Int)) = false := by simp
      have HS : Hid (decide (0 ≤ l) = true → ∀ x ∈ L, x.pl.size ≤ 400) := Lib.hid (by
        intro h0 x hx
        have := hrel.out (of_decide_eq_true h0)
        rw [List.take_of_length_le (by rw [HN.out]; exact Nat.le_refl _)] at this
        exact this x hx)
      obtain ⟨r, hr⟩ : ∃ r, decide (0 ≤ l) = r := ⟨_, rfl⟩
      have hr2 : decide (l ≥ 0) = r := hr
      rw [hr] at HS
      clear hrel
      go_wp2
      go_ret
      exact Smalls.it HS.out hBW
theorem small_any (P : Nat → Prop) (K : Option Addr) (n c : Nat) (L : List Tr) (w : World) (hP : ∀ b, P b → b < w.heap.size) (hR : RdP P w 5 K n (rowT L)) (hL : InL P w L) (hn : L.length = n) (hn1 : n ≤ 1048576) (hle : ∀ t ∈ L, t.pl.lens) :
    Calls Tryd.prog 5 #[.slice K n c] w fun e w' => Smalls L w e w' := by
  have H := Lib.hid (few_any P K n c L w hP hR hL hn hn1 hle)
  clear hP hR hL hn hn1 hle
  go_enter Tryd.func5, Tryd.ntmps5
  go_wp2_with fail
  refine H.out.mono ?_
  rintro e w1 ⟨r, rfl, hr, hb⟩
  have HR := Lib.hid hr
  clear hr
  go_wp2
  go_ret
  exact Smalls.it HR.out hb
end Go.Proofs.YtnkodafhjcjpjaaDoor
