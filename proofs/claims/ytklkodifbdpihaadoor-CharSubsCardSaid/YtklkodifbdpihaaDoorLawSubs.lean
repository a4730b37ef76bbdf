/- The statement CharSubs answers true at every text and any two numbers, in every world that holds the two tables. No condition beyond what the theorems state. -/
import Derived.Test.YtklkodifbdpihaaDoorLawNames
import Derived.Test.YtklkodifbdpihaaDoorSubRef
namespace Go.Proofs.YtklkodifbdpihaaDoor
open Go.RowKit Go.Lib
set_option maxRecDepth 100000
theorem sub_both (l : List UInt8) (f n : Nat) (hv : validD l = true) (hn : (runes l).length = n) (hf : f ≤ n) : subS l 0 (f : Int) ++ subS l (f : Int) (n : Int) = l := by
  have e1 : subS l 0 (f : Int) = fl ((runes l).take f) := by
    unfold subS subL
    by_cases h : (f : Int) < 1
    · rw [if_pos h, show f = 0 from by omega]; simp [fl]
    · rw [if_neg h, if_neg (by omega), if_neg (by omega)]; simp
  have e2 : subS l (f : Int) (n : Int) = fl ((runes l).drop f) := by
    unfold subS subL
    by_cases h : (n : Int) < 1
    · rw [if_pos h, List.drop_eq_nil_of_le (by omega)]; rfl
    · rw [if_neg h, if_neg (by omega), if_neg (by omega), show (f : Int).toNat = f from by omega, show (n : Int).toNat = n from by omega, List.take_of_length_le (by rw [List.length_drop]; omega)]
  rw [e1, e2, ← fl_append, List.take_append_drop]
  exact flat_runes hv
set_option maxHeartbeats 4000000 in
theorem subs_law (s : ByteArray) (fr co : Int) (w : World) (hs : s.size ≤ maxLen) (f1 : -9223372036854775808 ≤ fr) (f2 : fr ≤ 9223372036854775807) (c1 : -9223372036854775808 ≤ co) (c2 : co ≤ 9223372036854775807) (hT : tabs w) :
    Calls Tryd.prog 4 #[.string s, .int .i64 fr, .int .i64 co] w (lawPost w) := by
  have HT := Lib.hid hT
  clear hT
  have hs' := hs
  unfold maxLen at hs'
  by_cases hbig : 2000 < s.size
  · go_enter Tryd.func4, Tryd.ntmps4
    go_wp2_with fail
    refine (awake_call w HT.out w (Below.refl _ _)).mono ?_
    rintro e w1 ⟨rfl, b1⟩
    go_wp2_with fail
    refine (awake_call w HT.out w1 b1).mono ?_
    rintro e w2 ⟨rfl, b2⟩
    go_wp2_with fail
    go_ret
    exact ⟨rfl, b2⟩
  · have hs2 : s.size ≤ 1099511627776 := by omega
    have cVr := fun W => valid_ref s W hs2
    cases hX : validX s.data.toList
    · rw [hX] at cVr
      have C := Lib.hid cVr
      clear cVr hX
      go_enter Tryd.func4, Tryd.ntmps4
      go_wp2_with fail
      refine (awake_call w HT.out w (Below.refl _ _)).mono ?_
      rintro e w1 ⟨rfl, B1⟩
      go_wp2_with fail
      refine (C.out w1).mono ?_
      rintro e w2 ⟨rfl, b2⟩
      have B2 := B1.trans (b2.mono B1.size)
      go_wp2_with fail
      refine (awake_call w HT.out w2 B2).mono ?_
      rintro e w3 ⟨rfl, b3⟩
      go_wp2_with fail
      go_ret
      exact ⟨rfl, b3⟩
    · rw [hX] at cVr
      have C := Lib.hid cVr
      have hv : validD s.data.toList = true := by unfold validX at hX; exact (Bool.and_eq_true_iff.1 hX).1
      have hboth := fun (f n : Nat) h1 h2 => sub_both s.data.toList f n hv h1 h2
      have BO := Lib.hid hboth
      have HV := Lib.hid hv
      have cL := fun W => len_any s W hs2
      have hrl := runes_le s.data.toList
      have hz : s.data.toList.length = s.size := by simp
      obtain ⟨n, hn⟩ : ∃ n, (runes s.data.toList).length = n := ⟨_, rfl⟩
      rw [hn] at cL hrl
      have CL := Lib.hid cL
      have HN := Lib.hid hn
      have hn2 : n ≤ 2000 := by omega
      clear cVr hX hv hboth cL hn hrl hz
      go_enter Tryd.func4, Tryd.ntmps4
      go_wp2_with fail
      refine (awake_call w HT.out w (Below.refl _ _)).mono ?_
      rintro e w1 ⟨rfl, B1⟩
      go_wp2_with fail
      refine (C.out w1).mono ?_
      rintro e w2 ⟨rfl, b2⟩
      have B2 := B1.trans (b2.mono B1.size)
      clear b2
      go_wp2_with fail
      refine (sub_any s fr co w2 hs2 f1 f2 c1 c2 HV.out).mono ?_
      rintro e w3 ⟨o1, rfl, h1, b3⟩
      have B3 := B2.trans (b3.mono B2.size)
      have H1 := Lib.hid h1
      clear b3 h1
      go_wp2_with fail
      refine (sub_ref s fr co w3 hs2 f1 f2 c1 c2 HV.out).mono ?_
      rintro e w4 ⟨o2, rfl, h2, b4⟩
      have B4 := B3.trans (b4.mono B3.size)
      have heq := str_eq (H1.out.trans h2.symm)
      subst heq
      clear b4 h2
      go_wp2_with fail
      refine (CL.out w4).mono ?_
      rintro e w5 ⟨rfl, b5⟩
      have B5 := B4.trans (b5.mono B4.size)
      clear b5
      rcases (by omega : fr < 0 ∨ ((0 ≤ fr) ∧ (n : Int) < fr) ∨ (0 ≤ fr ∧ fr ≤ n)) with q | ⟨q1, q2⟩ | ⟨q1, q2⟩
      · go_wp2_with fail
        all_goals go_ret
        all_goals exact ⟨rfl, B5⟩
      · go_wp2_with fail
        all_goals go_ret
        all_goals exact ⟨rfl, B5⟩
      · obtain ⟨f, hf⟩ : ∃ f : Nat, fr = (f : Int) := ⟨fr.toNat, by omega⟩
        subst hf
        have hfn : f ≤ n := by omega
        go_wp2_with fail
        refine (sub_any s 0 f w5 hs2 (by omega) (by omega) (by omega) (by omega) HV.out).mono ?_
        rintro e w6 ⟨o3, rfl, h3, b6⟩
        have B6 := B5.trans (b6.mono B5.size)
        have H3 := Lib.hid h3
        clear b6 h3
        go_wp2_with fail
        refine (sub_any s f n w6 hs2 (by omega) (by omega) (by omega) (by omega) HV.out).mono ?_
        rintro e w7 ⟨o4, rfl, h4, b7⟩
        have B7 := B6.trans (b7.mono B6.size)
        have heq : o3 ++ o4 = s := str_eq (by rw [append_list, H3.out, h4]; exact BO.out f n HN.out hfn)
        have hsz : o3.size + o4.size ≤ 2000 := by
          have := congrArg ByteArray.size heq
          rw [ByteArray.size_append] at this
          omega
        have HE := Lib.hid heq
        clear b7 h4 heq
        go_wp2_with fail
        go_ret
        exact ⟨ret_bool (by rw [HE.out]; simp), B7⟩
end Go.Proofs.YtklkodifbdpihaaDoor
