/- The statement CharTexts answers true at every text, in every world that holds the two tables. No condition beyond what the theorems state. -/
import Derived.Test.YtklkodifbdpihaaDoorLawNames
import Derived.Test.YtklkodifbdpihaaDoorInts
namespace Go.Proofs.YtklkodifbdpihaaDoor
open Go.RowKit Go.Lib
set_option maxRecDepth 100000
def toZ (xs : List Nat) : List Int := xs.map fun (r : Nat) => (r : Int)
theorem toZ_getD (xs : List Nat) (k : Nat) : (toZ xs).getD k 0 = ((xs.getD k 0 : Nat) : Int) := by
  unfold toZ
  rw [List.getD_eq_getElem?_getD, List.getD_eq_getElem?_getD, List.getElem?_map]
  cases xs[k]? <;> rfl
theorem own_intsAt {w : World} {B n : Nat} {v : Value} {xs : List Nat} (h : w.ownsRow B 3 1 v n (cellsI xs)) : ∃ A cap, v = .slice A n cap ∧ intsAt w A n (toZ xs) := by
  obtain ⟨A, cap, e, hl, hc⟩ := own_read h
  refine ⟨A, cap, e, by unfold toZ; rw [List.length_map]; exact hl, fun k hk => ?_⟩
  obtain ⟨g, e2, h2⟩ := hc k hk
  exact ⟨g, 0, e2, by rw [Nat.zero_add, toZ_getD]; exact h2⟩
theorem two_str (w : World) (a s : ByteArray) (ha : a.size ≤ maxLen) (hs : s.size ≤ maxLen) : strsAt (w.alloc (.cells #[.string a, .string s] 9)) (some ⟨w.heap.size, 0, none⟩) [a, s] := by
  intro k hk
  have : k = 0 ∨ k = 1 := by simp at hk; omega
  rcases this with rfl | rfl
  · exact ⟨w.heap.size, rfl, by simp, by simp, ha⟩
  · exact ⟨w.heap.size, rfl, by simp, by simp, hs⟩
set_option maxHeartbeats 4000000 in
theorem texts_law (s : ByteArray) (w : World) (hs : s.size ≤ maxLen) (hT : tabs w) : Calls Tryd.prog 3 #[.string s] w (lawPost w) := by
  have HT := Lib.hid hT
  clear hT
  have hs' := hs
  unfold maxLen at hs'
  by_cases hbig : 5000 < s.size
  · go_enter Tryd.func3, Tryd.ntmps3
    go_wp2_with fail
    refine (awake_call w HT.out w (Below.refl _ _)).mono ?_
    rintro e w1 ⟨rfl, b1⟩
    go_wp2_with fail
    refine (awake_call w HT.out w1 b1).mono ?_
    rintro e w2 ⟨rfl, b2⟩
    go_wp2_with fail
    go_ret
    exact ⟨rfl, b2⟩
  · have hs2 : s.size ≤ 1099511627776 := by omega
    have cV : ∀ (W : World), Below w.heap.size w W → Calls Tryd.prog 10 #[.slice (some ⟨W.heap.size, 0, none⟩) 1 1] (W.alloc (.cells #[.string s] 9)) fun e w' => e = .returned (.bool (validX s.data.toList)) ∧ Below w.heap.size w w' := by
      intro W hb
      have hba : Below W.heap.size W (W.alloc (.cells #[.string s] 9)) := (Below.refl _ _).alloc (Nat.le_refl _) _
      have := valid_any (some ⟨W.heap.size, 0, none⟩) 1 1 [s] _ rfl (by omega) (tabs_to (tabs_to HT.out hb) hba) (one_str W s hs)
      rw [show [s].all vS = validX s.data.toList from by simp [vS]] at this
      exact this.mono fun e w' ⟨h1, h2⟩ => ⟨h1, hb.trans ((hba.trans (h2.mono hba.size)).mono hb.size)⟩
    have cV2 : ∀ (W : World), Below w.heap.size w W → Calls Tryd.prog 10 #[.slice (some ⟨W.heap.size, 0, none⟩) 2 2] (W.alloc (.cells #[.string ⟨#[97]⟩, .string s] 9)) fun e w' => e = .returned (.bool (validX s.data.toList)) ∧ Below w.heap.size w w' := by
      intro W hb
      have hba : Below W.heap.size W (W.alloc (.cells #[.string ⟨#[97]⟩, .string s] 9)) := (Below.refl _ _).alloc (Nat.le_refl _) _
      have := valid_any (some ⟨W.heap.size, 0, none⟩) 2 2 [⟨#[97]⟩, s] _ rfl (by omega) (tabs_to (tabs_to HT.out hb) hba) (two_str W _ s (by unfold maxLen; decide) hs)
      rw [show [(⟨#[97]⟩ : ByteArray), s].all vS = validX s.data.toList from by
        rw [List.all_cons, show vS (⟨#[97]⟩ : ByteArray) = true from by kernel_rfl]; simp [vS]] at this
      exact this.mono fun e w' ⟨h1, h2⟩ => ⟨h1, hb.trans ((hba.trans (h2.mono hba.size)).mono hb.size)⟩
    have cVr := fun W => valid_ref s W hs2
    obtain ⟨X, hX⟩ : ∃ X, validX s.data.toList = X := ⟨_, rfl⟩
    have hXD : X = true → validD s.data.toList = true := by rw [← hX]; unfold validX; intro h; exact (Bool.and_eq_true_iff.1 h).1
    rw [hX] at cV cV2 cVr
    clear hX
    have CV := Lib.hid cV; have CV2 := Lib.hid cV2; have CVR := Lib.hid cVr; have XD := Lib.hid hXD
    clear cV cV2 cVr hXD
    have cN := fun W hb => name_call w HT.out W hb s _ hs rfl
    have cNr := fun W => name_ref s W hs2
    obtain ⟨Y, hY⟩ : ∃ Y, nameX s.data.toList = Y := ⟨_, rfl⟩
    rw [hY] at cN cNr
    clear hY
    have CN := Lib.hid cN; have CNR := Lib.hid cNr
    clear cN cNr
    go_enter Tryd.func3, Tryd.ntmps3
    go_wp2_with fail
    refine (awake_call w HT.out w (Below.refl _ _)).mono ?_
    rintro e w1 ⟨rfl, B1⟩
    go_wp2_with fail
    refine (CVR.out w1).mono ?_
    rintro e w2 ⟨rfl, b2⟩
    have B2 := B1.trans (b2.mono B1.size)
    clear b2
    go_wp2_with fail
    refine (CV.out w2 B2).mono ?_
    rintro e w3 ⟨rfl, B3⟩
    have hXX : (X != X) = false := by cases X <;> rfl
    have hYY : (Y != Y) = false := by cases Y <;> rfl
    go_wp2_with fail
    refine (CV2.out w3 B3).mono ?_
    rintro e w4 ⟨rfl, B4⟩
    go_wp2_with fail
    refine (CN.out w4 B4).mono ?_
    rintro e w5 ⟨rfl, B5⟩
    go_wp2_with fail
    refine (CNR.out w5).mono ?_
    rintro e w6 ⟨rfl, b6⟩
    have B6 := B5.trans (b6.mono B5.size)
    clear b6
    go_wp2_with fail
    refine (trim_any s w6 hs (tabs_to HT.out B6)).mono ?_
    rintro e w7 ⟨o1, rfl, ho1, b7⟩
    have B7 := B6.trans (b7.mono B6.size)
    have O1 := Lib.hid ho1
    clear b7 ho1
    go_wp2_with fail
    refine (trim_ref s w7 hs2).mono ?_
    rintro e w8 ⟨i, j, _, _, rfl, ht, rfl⟩
    have heq := str_eq (O1.out.trans ht.symm)
    obtain ⟨o2, ho2⟩ : ∃ o2, s.extract i j = o2 := ⟨_, rfl⟩
    rw [ho2] at heq ⊢
    subst heq
    clear ht ho2
    go_wp2_with fail
    refine (normal_any s w7 (by omega)).mono ?_
    rintro e w8 ⟨o3, rfl, ho3, b8⟩
    have B8 := B7.trans (b8.mono B7.size)
    have O3 := Lib.hid ho3
    clear b8 ho3
    go_wp2_with fail
    refine (normal_ref s w8 hs2).mono ?_
    rintro e w9 ⟨o4, rfl, ho4, rfl⟩
    have heq := str_eq (O3.out.trans ho4.symm)
    subst heq
    clear ho4
    cases X
    · go_wp2_with fail
      all_goals go_ret
      all_goals exact ⟨rfl, B8⟩
    · have HV := Lib.hid (XD.out rfl)
      go_wp2_with fail
      refine (points_ref s w8 hs2).mono ?_
      rintro e w9 h9
      obtain ⟨v, rfl, hown9, b9⟩ : ∃ v, e = .returned (.tuple #[v, .bool true]) ∧ w9.ownsRow w8.heap.size 3 1 v (runes s.data.toList).length (cellsI (runes s.data.toList)) ∧ Below w8.heap.size w8 w9 := by
        rcases h9 with ⟨_, h⟩ | ⟨h, _⟩
        · exact h
        · rw [HV.out] at h; cases h
      have B9 := B8.trans (b9.mono B8.size)
      have cL := fun W => len_any s W hs2
      have cP := fun W => points_any s W hs2
      have hnle : (runes s.data.toList).length ≤ 1099511627776 := by
        have h1 := runes_le s.data.toList
        have h2 : s.data.toList.length = s.size := by simp
        omega
      obtain ⟨xs, hxs⟩ : ∃ xs, runes s.data.toList = xs := ⟨_, rfl⟩
      rw [hxs] at hown9 cL cP hnle
      clear hxs b9 h9
      obtain ⟨n, hn⟩ : ∃ n, xs.length = n := ⟨_, rfl⟩
      rw [hn] at hown9 cL hnle
      unfold slicePost at cP
      rw [hn] at cP
      clear hn
      obtain ⟨A, cap, rfl, _⟩ := own_intsAt hown9
      have O9 := Lib.hid hown9
      have CL := Lib.hid cL
      have CP := Lib.hid cP
      clear hown9 cL cP
      go_wp2_with fail
      refine (CL.out w9).mono ?_
      rintro e w10 ⟨rfl, b10⟩
      have B10 := B9.trans (b10.mono B9.size)
      have O10 := Lib.hid (own_below O9.out b10)
      have hnn : ((n : Int) == (n : Int)) = true := by simp
      clear b10 O9
      go_wp2_with fail
      refine (CP.out w10).mono ?_
      rintro e w11 ⟨v2, rfl, hown11, b11⟩
      have B11 := B10.trans (b11.mono B10.size)
      have O11 := Lib.hid (own_below O10.out b11)
      obtain ⟨A2, cap2, rfl, hi2⟩ := own_intsAt hown11
      obtain ⟨A1, cap1, he1, hi1⟩ := own_intsAt O11.out
      injection he1 with he1 _ he2
      subst he1
      subst he2
      have cI := ints_any A2 A n n cap2 cap (toZ xs) (toZ xs) w11 hnle hnle hi2 hi1
      rw [show decide (toZ xs = toZ xs) = true from by simp] at cI
      have CI := Lib.hid cI
      clear cI hi1 hi2 hown11 b11
      go_wp2_with fail
      refine CI.out.mono ?_
      rintro e w12 ⟨rfl, q, rfl⟩
      go_wp2_with fail
      go_ret
      exact ⟨rfl, below_drewN' B11 q⟩
end Go.Proofs.YtklkodifbdpihaaDoor
