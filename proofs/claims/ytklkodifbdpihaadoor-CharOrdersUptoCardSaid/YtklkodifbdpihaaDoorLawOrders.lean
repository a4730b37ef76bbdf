/- The statement CharOrders answers true at texts of at most 1048576 bytes, in every world that holds the two tables. No condition beyond what the theorems state. -/
import Derived.Test.YtklkodifbdpihaaDoorMathO
import Derived.Test.YtklkodifbdpihaaDoorLawTexts
namespace Go.Proofs.YtklkodifbdpihaaDoor
open Go.RowKit Go.Lib
set_option maxRecDepth 100000
set_option maxHeartbeats 1000000 in
theorem compare_any (a b : ByteArray) (w : World) : Calls Tryd.prog 23 #[.string a, .string b] w fun e w' => e = .returned (.int .i64 (Lib.compareBytes a.data.toList b.data.toList)) ∧ w = w' := by
  have C := Lib.hid (Tryd.strings_Compare a b w)
  obtain ⟨r, hr⟩ : ∃ r, Lib.compareBytes a.data.toList b.data.toList = r := ⟨_, rfl⟩
  rw [hr] at C ⊢
  clear hr
  go_enter Tryd.func23, Tryd.ntmps23
  go_wp2_with (go_at_call 44; refine C.out.mono ?_; rintro e w' ⟨rfl, rfl⟩)
  go_ret
  exact ⟨rfl, rfl⟩
def ordRel (w3 : World) (xs ys : List Nat) (n m : Nat) (s14 s15 : Value) (wx : World) : Prop :=
  ∃ (k q : Nat) (V : Int), s15 = .int .i64 k ∧ s14 = .int .i64 V ∧ wx = w3.drewN q ∧ k ≤ n ∧ k ≤ m ∧ ((V = 0 ∧ cmpN xs ys = cmpN (xs.drop k) (ys.drop k)) ∨ ((V = -1 ∨ V = 1) ∧ cmpN xs ys = V))
theorem ptsOut_one {B : Nat} {w w' : World} {l : List UInt8} {e : Ending} (h : ptsOut B w l e w') : ∃ A n cap, e = .returned (.tuple #[.slice A n cap, .bool (validD l)]) ∧ Below B w w' ∧ n ≤ (runes l).length ∧ (validD l = true → n = (runes l).length ∧ w'.ownsRow B 3 1 (.slice A n cap) (runes l).length (cellsI (runes l))) := by
  rcases h with ⟨hv, v, rfl, hown, hb⟩ | ⟨hv, rfl, hb⟩
  · obtain ⟨A, cap, rfl, hl, _⟩ := own_read hown
    exact ⟨A, _, cap, by rw [hv], hb, Nat.le_refl _, fun _ => ⟨rfl, hown⟩⟩
  · exact ⟨none, 0, 0, by rw [hv], hb, Nat.zero_le _, fun h => by rw [hv] at h; cases h⟩
set_option maxHeartbeats 8000000 in
theorem orders_law (a b c : ByteArray) (w : World) (ha : a.size ≤ 1048576) (hb : b.size ≤ 1048576) (hT : tabs w) : Calls Tryd.prog 5 #[.string a, .string b, .string c] w (lawPost w) := by
  have HT := Lib.hid hT
  clear hT
  have h1 := fun W => compare_any a b W
  have h2 := fun W => compare_any b c W
  have h3 := fun W => compare_any a c W
  have h4 := fun W => compare_any b a W
  rw [cmp_anti a.data.toList b.data.toList] at h4
  have hz := fun (h : Lib.compareBytes a.data.toList b.data.toList = 0) => cmp_zero _ _ h
  have hE : (a.toList == b.toList) = (Lib.compareBytes a.data.toList b.data.toList == 0) := by
    rw [ByteArray.toList_eq, ByteArray.toList_eq, Bool.eq_iff_iff, beq_iff_eq, beq_iff_eq]
    constructor
    · intro h; rw [h, cmp_self]
    · exact cmp_zero _ _
  have hL : Op.bytesLess a.toList b.toList = decide (Lib.compareBytes a.data.toList b.data.toList < 0) := by
    rw [ByteArray.toList_eq, ByteArray.toList_eq]; exact less_cmp _ _
  have hr1 := cmp_range a.data.toList b.data.toList
  have hr2 := cmp_range b.data.toList c.data.toList
  have htr : Lib.compareBytes a.data.toList b.data.toList < 0 → Lib.compareBytes b.data.toList c.data.toList < 0 → Lib.compareBytes a.data.toList c.data.toList < 0 := by
    intro p q
    rw [cmp_trans a.data.toList b.data.toList c.data.toList (by omega) (by omega)]
    decide
  have hP : validD a.data.toList = true → validD b.data.toList = true → Lib.compareBytes a.data.toList b.data.toList = cmpN (runes a.data.toList) (runes b.data.toList) := cmp_runes
  obtain ⟨x, hx⟩ : ∃ x, Lib.compareBytes a.data.toList b.data.toList = x := ⟨_, rfl⟩
  obtain ⟨y, hy⟩ : ∃ y, Lib.compareBytes b.data.toList c.data.toList = y := ⟨_, rfl⟩
  obtain ⟨z, hz'⟩ : ∃ z, Lib.compareBytes a.data.toList c.data.toList = z := ⟨_, rfl⟩
  rw [hx] at h1 h4 hE hL hr1 htr hP
  rw [hy] at h2 hr2 htr
  rw [hz'] at h3 htr
  have xb1 : -1 ≤ x := by omega
  have xb2 : x ≤ 1 := by omega
  clear hz hx hy hz' hr1 hr2
  have H1 := Lib.hid h1; have H2 := Lib.hid h2; have H3 := Lib.hid h3; have H4 := Lib.hid h4; have HP := Lib.hid hP
  clear h1 h2 h3 h4 hP
  have hcase : (x < 0 ∧ y < 0 ∧ z < 0) ∨ ¬ x < 0 ∨ (x < 0 ∧ ¬ y < 0) := by
    by_cases p : x < 0
    · by_cases q : y < 0
      · exact .inl ⟨p, q, htr p q⟩
      · exact .inr (.inr ⟨p, q⟩)
    · exact .inr (.inl p)
  clear htr
  rcases hcase with ⟨p1, p2, p3⟩ | p1 | ⟨p1, p2⟩
  all_goals
    go_enter Tryd.func5, Tryd.ntmps5
    go_wp2_with fail
    refine (awake_call w HT.out w (Below.refl _ _)).mono ?_
    rintro e w1 ⟨rfl, B1⟩
    go_wp2_with fail
    refine (H1.out _).mono ?_
    rintro e w2 ⟨rfl, rfl⟩
    go_wp2_with fail
    refine (H2.out _).mono ?_
    rintro e w2 ⟨rfl, rfl⟩
    go_wp2_with fail
    refine (H3.out _).mono ?_
    rintro e w2 ⟨rfl, rfl⟩
    go_wp2_with fail
    refine (H4.out _).mono ?_
    rintro e w2 ⟨rfl, rfl⟩
    go_wp2_with fail
    refine (points_ref a w1 (by omega)).mono ?_
    rintro e w2 h2
    obtain ⟨A1, n, cap1, rfl, b2, hn, ho1⟩ := ptsOut_one h2
    have B2 := B1.trans (b2.mono B1.size)
    have HO1 := Lib.hid ho1
    clear h2 b2 ho1
    go_wp2_with fail
    refine (points_ref b w2 (by omega)).mono ?_
    rintro e w3 h3
    obtain ⟨A2, m, cap2, rfl, b3, hm, ho2⟩ := ptsOut_one h3
    have B3 := B2.trans (b3.mono B2.size)
    have HO2 := Lib.hid ho2
    have HB3 := Lib.hid b3
    have hr1 := runes_le a.data.toList
    have hr2 := runes_le b.data.toList
    have hz1 : a.data.toList.length = a.size := by simp
    have hz2 : b.data.toList.length = b.size := by simp
    have hn2 : n ≤ 1048576 := by omega
    have hm2 : m ≤ 1048576 := by omega
    clear h3 b3 ho2 hE hL hr1 hr2 hz1 hz2 hn hm
    obtain ⟨VA, hVA⟩ : ∃ VA, validD a.data.toList = VA := ⟨_, rfl⟩
    obtain ⟨VB, hVB⟩ : ∃ VB, validD b.data.toList = VB := ⟨_, rfl⟩
    rw [hVA] at HO1 HP ⊢
    rw [hVB] at HO2 HP ⊢
    clear hVA hVB
    obtain ⟨xs, hxs⟩ : ∃ xs, runes a.data.toList = xs := ⟨_, rfl⟩
    obtain ⟨ys, hys⟩ : ∃ ys, runes b.data.toList = ys := ⟨_, rfl⟩
    rw [hxs] at HO1 HP
    rw [hys] at HO2 HP
    clear hxs hys
    cases VA
    all_goals cases VB
    all_goals first
      | (go_wp2_with fail
         go_ret
         exact ⟨rfl, B3⟩)
      | skip
    obtain ⟨rfl, ho1⟩ := HO1.out rfl
    obtain ⟨rfl, ho2⟩ := HO2.out rfl
    have HX := Lib.hid (HP.out rfl rfl)
    have ho1' := own_below ho1 HB3.out
    obtain ⟨A1', cap1', e1, hl1, rd1⟩ := own_read ho1'
    obtain ⟨A2', cap2', e2, hl2, rd2⟩ := own_read ho2
    injection e1 with e11 _ _
    injection e2 with e21 _ _
    subst e11
    subst e21
    obtain ⟨n, hn⟩ : ∃ n, xs.length = n := ⟨_, rfl⟩
    obtain ⟨m, hm⟩ : ∃ m, ys.length = m := ⟨_, rfl⟩
    rw [hn] at rd1 hn2 ⊢
    rw [hm] at rd2 hm2 ⊢
    have R1 := Lib.hid rd1; have R2 := Lib.hid rd2; have HN := Lib.hid hn; have HM := Lib.hid hm
    clear HP HO1 HO2 ho1 ho2 ho1' rd1 rd2 hn hm hl1 hl2 HB3 H1 H2 H3 H4
    go_wp2
    go_loopw [14, 15] (fun s14 s15 wx => ordRel w3 xs ys n m s14 s15 wx) (fun _ s15 _ => n - (intOf s15).toNat)
    case atStart => exact ⟨0, 0, 0, rfl, rfl, rfl, Nat.zero_le _, Nat.zero_le _, .inl ⟨rfl, rfl⟩⟩
    case round =>
      obtain ⟨k, q, V, rfl, rfl, rfl, hk1, hk2, hV⟩ := hrel
      rcases hV with ⟨rfl, hV⟩ | ⟨hV1, hV⟩
      · by_cases hlt : k < n ∧ k < m
        · obtain ⟨hl1, hl2⟩ := hlt
          obtain ⟨g1, rfl, c1⟩ := R1.out k hl1
          obtain ⟨g2, rfl, c2⟩ := R2.out k hl2
          have hst := cmpN_at xs ys k (by rw [HN.out]; exact hl1) (by rw [HM.out]; exact hl2)
          obtain ⟨p, hp⟩ : ∃ p, xs.getD k 0 = p := ⟨_, rfl⟩
          obtain ⟨r, hr⟩ : ∃ r, ys.getD k 0 = r := ⟨_, rfl⟩
          rw [hp, hr] at hst
          rw [hp] at c1
          rw [hr] at c2
          rw [hst] at hV
          have HV := Lib.hid hV
          clear hV hst hp hr
          have i1 : (k : Int) < (n : Int) := by omega
          have i2 : (k : Int) < (m : Int) := by omega
          have i3 : (0 : Int) ≤ (k : Int) := by omega
          rcases (by omega : p < r ∨ r < p ∨ p = r) with d | d | d
          · have d' : (p : Int) < (r : Int) := by omega
            have F : Hid (cmpN xs ys = -1) := Lib.hid (HV.out.trans (if_pos d))
            clear d HV
            go_wp2
            go_quiet (fail)
            go_wp2
            go_roundw
            case rel => exact ⟨k + 1, _, -1, by go_num, rfl, rfl, by omega, by omega, Or.inr ⟨Or.inl rfl, F.out⟩⟩
            case measure => simp [intOf]; omega
          · have d' : (r : Int) < (p : Int) := by omega
            have F : Hid (cmpN xs ys = 1) := Lib.hid ((HV.out.trans (if_neg (by omega))).trans (if_pos d))
            clear d HV
            go_wp2
            go_quiet (fail)
            go_wp2
            go_quiet (fail)
            go_wp2
            go_roundw
            case rel => exact ⟨k + 1, _, 1, by go_num, rfl, rfl, by omega, by omega, Or.inr ⟨Or.inr rfl, F.out⟩⟩
            case measure => simp [intOf]; omega
          · subst d
            have F : Hid (cmpN xs ys = cmpN (xs.drop (k + 1)) (ys.drop (k + 1))) := Lib.hid ((HV.out.trans (if_neg (by omega))).trans (if_neg (by omega)))
            clear HV
            go_wp2
            go_quiet (fail)
            go_wp2
            go_quiet (fail)
            go_wp2
            go_roundw
            case rel => exact ⟨k + 1, _, 0, by go_num, rfl, rfl, by omega, by omega, Or.inl ⟨rfl, F.out⟩⟩
            case measure => simp [intOf]; omega
        · have hend := cmpN_end xs ys k (by rw [HN.out]; exact hk1) (by rw [HM.out]; exact hk2) (by rw [HN.out, HM.out]; omega)
          rw [HN.out, HM.out] at hend
          have HV := Lib.hid ((HX.out.trans hV).trans hend)
          clear hV hend
          rcases (by omega : n < m ∨ m < n ∨ n = m) with d | d | d
          · have F : Hid (x = -1) := Lib.hid (HV.out.trans (if_pos d))
            have hkn : k = n := by omega
            subst hkn
            have d' : (k : Int) < (m : Int) := by omega
            clear HV hlt
            go_wp2
            all_goals go_ret
            all_goals exact ⟨ret_bool (by rw [F.out]; rfl), below_drewN' B3 _⟩
          · have F : Hid (x = 1) := Lib.hid ((HV.out.trans (if_neg (by omega))).trans (if_pos d))
            have hkn : k = m := by omega
            subst hkn
            have d' : (k : Int) < (n : Int) := by omega
            clear HV hlt
            go_wp2
            all_goals go_ret
            all_goals exact ⟨ret_bool (by rw [F.out]; rfl), below_drewN' B3 _⟩
          · have F : Hid (x = 0) := Lib.hid ((HV.out.trans (if_neg (by omega))).trans (if_neg (by omega)))
            have hkn : k = n := by omega
            subst hkn
            subst d
            clear HV hlt
            go_wp2
            all_goals go_ret
            all_goals exact ⟨ret_bool (by rw [F.out]; rfl), below_drewN' B3 _⟩
      · have F := Lib.hid (HX.out.trans hV)
        clear hV
        rcases hV1 with rfl | rfl
        all_goals
          go_wp2
          all_goals go_ret
          all_goals exact ⟨ret_bool (by rw [F.out]; rfl), below_drewN' B3 _⟩
end Go.Proofs.YtklkodifbdpihaaDoor
