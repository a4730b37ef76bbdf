/- The statement AxisSets. No condition beyond what the theorems state. -/
import Derived.Test.YtcmlfkoeajpliaaDoorAxSets
import Derived.Test.YtcmlfkoeajpliaaDoorAxWake
import Derived.Test.YtcmlfkoeajpliaaDoorRowBase
namespace Go.Proofs.YtcmlfkoeajpliaaDoor
open Go.RowKit Go.Lib Go.Shelf
set_option maxRecDepth 100000
set_option maxHeartbeats 16000000
theorem filt_one (a b : List Int) : ordZ (putZ 1 a b) = pickZ a b true := by
  obtain ⟨h1, h2⟩ := ordZ_both a
  obtain ⟨_, h4⟩ := ordZ_both b
  refine ordZ_is (h1.sublist List.filter_sublist) fun x => ?_
  unfold putZ pickZ
  rw [if_neg (by omega), List.append_nil, List.mem_filter, List.mem_filter, h2]
  refine and_congr_right fun _ => ?_
  unfold tkZ
  by_cases hx : x ∈ b
  · have e1 : (ordZ b).contains x = true := by simpa using (h4 x).2 hx
    have e2 : b.contains x = true := by simpa using hx
    rw [e1, e2]; simp
  · have e1 : (ordZ b).contains x = false := by simpa using fun h => hx ((h4 x).1 h)
    have e2 : b.contains x = false := by simpa using hx
    rw [e1, e2]; simp
theorem filt_two (a b : List Int) : ordZ (putZ 2 a b) = pickZ a b false := by
  obtain ⟨h1, h2⟩ := ordZ_both a
  obtain ⟨_, h4⟩ := ordZ_both b
  refine ordZ_is (h1.sublist List.filter_sublist) fun x => ?_
  unfold putZ pickZ
  rw [if_neg (by omega), List.append_nil, List.mem_filter, List.mem_filter, h2]
  refine and_congr_right fun _ => ?_
  unfold tkZ
  by_cases hx : x ∈ b
  · have e1 : (ordZ b).contains x = true := by simpa using (h4 x).2 hx
    have e2 : b.contains x = true := by simpa using hx
    rw [e1, e2]; simp
  · have e1 : (ordZ b).contains x = false := by simpa using fun h => hx ((h4 x).1 h)
    have e2 : b.contains x = false := by simpa using hx
    rw [e1, e2]; simp
theorem filt_zero (a b : List Int) : ordZ (putZ 0 a b) = ordZ (a ++ b) := by
  congr 1
  unfold putZ
  rw [if_pos rfl]
  congr 1
  exact List.filter_eq_self.2 fun x _ => by unfold tkZ; simp
theorem RowLeft.ir {w w' : World} {zs : List Int} {e : Ending} (h : RowLeft w zs e w') : ∃ A c, e = .returned (.slice A zs.length c) ∧ IR w' A zs ∧ Below w.heap.size w w' := by
  obtain ⟨A, c, e1, h1, h2⟩ := h
  exact ⟨A, c, e1, own_IR h1, h2⟩
theorem inter_any (A B : Option Addr) (n m ca cb : Nat) (a b : List Int) (w : World) (hA : IR w A a) (hB : IR w B b) (hla : a.length = n) (hlb : b.length = m) (hn : n ≤ 400000) (hm : m ≤ 400000) :
    Calls Tryd.prog 45 #[.slice A n ca, .slice B m cb] w (RowLeft w (pickZ a b true)) := by
  have HC := Lib.hid (pick_any A B n m ca cb a b true w hA hB hla hlb hn hm)
  obtain ⟨zs, hz⟩ : ∃ zs, pickZ a b true = zs := ⟨_, rfl⟩
  rw [hz] at HC ⊢
  unfold RowLeft at HC
  clear hA hB hla hlb hz
  go_enter Tryd.func45, Tryd.ntmps45
  go_wp2_with fail
  refine HC.out.mono ?_
  rintro e w1 ⟨A1, c1, rfl, ho1, hb1⟩
  have HX := Lib.hid (⟨ho1, hb1⟩ : _ ∧ _)
  clear ho1 hb1 HC
  go_wp2
  go_ret
  exact ⟨A1, c1, rfl, HX.out.1, HX.out.2⟩
theorem except_any (A B : Option Addr) (n m ca cb : Nat) (a b : List Int) (w : World) (hA : IR w A a) (hB : IR w B b) (hla : a.length = n) (hlb : b.length = m) (hn : n ≤ 400000) (hm : m ≤ 400000) :
    Calls Tryd.prog 46 #[.slice A n ca, .slice B m cb] w (RowLeft w (pickZ a b false)) := by
  have HC := Lib.hid (pick_any A B n m ca cb a b false w hA hB hla hlb hn hm)
  obtain ⟨zs, hz⟩ : ∃ zs, pickZ a b false = zs := ⟨_, rfl⟩
  rw [hz] at HC ⊢
  unfold RowLeft at HC
  clear hA hB hla hlb hz
  go_enter Tryd.func46, Tryd.ntmps46
  go_wp2_with fail
  refine HC.out.mono ?_
  rintro e w1 ⟨A1, c1, rfl, ho1, hb1⟩
  have HX := Lib.hid (⟨ho1, hb1⟩ : _ ∧ _)
  clear ho1 hb1 HC
  go_wp2
  go_ret
  exact ⟨A1, c1, rfl, HX.out.1, HX.out.2⟩
end Go.Proofs.YtcmlfkoeajpliaaDoor
namespace Go.Proofs.YtcmlfkoeajpliaaDoor
open Go.RowKit Go.Lib Go.Shelf
set_option maxRecDepth 100000
set_option maxHeartbeats 16000000
theorem own_empty (w : World) : (w.alloc (.cells #[] 3)).ownsRow w.heap.size 3 1 (.slice (some ⟨w.heap.size, 0, none⟩) 0 0) 0 [] :=
  ⟨rfl, .inr ⟨w.heap.size, 0, #[], rfl, Nat.le_refl _, heap_alloc_new w _, Nat.le_refl _, by unfold maxLen; omega, rfl, rfl⟩⟩
def Lft (W : World) (zs : List Int) (e : Ending) (w' : World) : Prop := ∃ A c, e = .returned (.slice A zs.length c) ∧ IR w' A zs ∧ Below W.heap.size W w'
theorem RowLeft.lft {w w' : World} {zs : List Int} {e : Ending} (h : RowLeft w zs e w') : Lft w zs e w' := h.ir
theorem ord_lft {w w' : World} {zs : List Int} {e : Ending} (h : OrdLeft w zs e w') : Lft w (ordZ zs) e w' := by
  obtain ⟨A, c, e1, h1, h2⟩ := h
  exact ⟨A, c, e1, own_IR h1, h2⟩
theorem sets_big (A B : Option Addr) (n m ca cb : Nat) (w : World) (hb : 300 < n ∨ 300 < m) (HAW : Hid (∀ W, Below w.heap.size w W → Calls Tryd.prog 33 #[] W fun e w' => e = .returned (.bool true) ∧ Below W.heap.size W w')) :
    Calls Tryd.prog 9 #[.slice A n ca, .slice B m cb] w fun e w' => e = .returned (.bool true) ∧ Below w.heap.size w w' := by
  have H0 := Lib.hid (HAW.out w (Below.refl _ _))
  by_cases h1 : 300 < n
  · have g1 : decide ((n : Int) > 300) = true := by simp; omega
    have g2 : decide (300 < (n : Int)) = true := by simp; omega
    have g3 : decide (300 < n) = true := by simpa using h1
    go_enter Tryd.func9, Tryd.ntmps9
    go_wp2_with fail
    refine H0.out.mono ?_
    rintro e w1 ⟨rfl, b1⟩
    have H1 := Lib.hid (HAW.out w1 b1)
    have HB := Lib.hid b1
    clear b1 hb
    go_wp2_with fail
    refine H1.out.mono ?_
    rintro e w2 ⟨rfl, b2⟩
    have b3 := bt HB.out b2
    clear b2
    go_wp2
    go_ret
    exact ⟨rfl, b3⟩
  · have hm : 300 < m := by omega
    have f1 : decide ((n : Int) > 300) = false := by simp; omega
    have f2 : decide (300 < (n : Int)) = false := by simp; omega
    have f3 : decide (300 < n) = false := by simp; omega
    have g1 : decide ((m : Int) > 300) = true := by simp; omega
    have g2 : decide (300 < (m : Int)) = true := by simp; omega
    have g3 : decide (300 < m) = true := by simpa using hm
    go_enter Tryd.func9, Tryd.ntmps9
    go_wp2_with fail
    refine H0.out.mono ?_
    rintro e w1 ⟨rfl, b1⟩
    have H1 := Lib.hid (HAW.out w1 b1)
    have HB := Lib.hid b1
    clear b1 hb
    go_wp2_with fail
    refine H1.out.mono ?_
    rintro e w2 ⟨rfl, b2⟩
    have b3 := bt HB.out b2
    clear b2
    go_wp2
    go_ret
    exact ⟨rfl, b3⟩
theorem sets_walk (A B : Option Addr) (n m ca cb : Nat) (a b : List Int) (w : World) (hA : IR w A a) (hB : IR w B b) (hla : a.length = n) (hlb : b.length = m) (hn : n ≤ 300) (hm : m ≤ 300)
    (HAW : Hid (∀ W, Below w.heap.size w W → Calls Tryd.prog 33 #[] W fun e w' => e = .returned (.bool true) ∧ Below W.heap.size W w')) :
    Calls Tryd.prog 9 #[.slice A n ca, .slice B m cb] w fun e w' => e = .returned (.bool true) ∧ Below w.heap.size w w' := by
  obtain ⟨i3, hi3, hz30, hz31, hz32⟩ := info_parts int_info
  have H0 := Lib.hid (HAW.out w (Below.refl _ _))
  have f1 : decide ((n : Int) > 300) = false := by simp; omega
  have f2 : decide (300 < (n : Int)) = false := by simp; omega
  have f3 : decide (300 < n) = false := by simp; omega
  have g1 : decide ((m : Int) > 300) = false := by simp; omega
  have g2 : decide (300 < (m : Int)) = false := by simp; omega
  have g3 : decide (300 < m) = false := by simp; omega
  have HA := Lib.hid hA; have HBB := Lib.hid hB; have HLA := Lib.hid hla; have HLB := Lib.hid hlb
  clear hA hB hla hlb
  go_enter Tryd.func9, Tryd.ntmps9
  go_wp2_with fail
  refine H0.out.mono ?_
  rintro e w1 ⟨rfl, b1⟩
  have HB1 := Lib.hid b1
  have hz1 := b1.size
  clear b1
  go_wp2_with (first
    | (at_builtin
       refine wpList_append_any _ rfl (.tmp 20) (.tmp 21) _ rfl w1.heap.size 3 i3 _ 1 8 Tryd.underlying55 hi3 hz30 hz31 hz32 rfl (by omega) (.slice (some ⟨w1.heap.size, 0, none⟩) 0 0) 0 [] rfl (own_empty w1) _ A n ca (rowZ a) rfl ((HA.out.below (ba HB1.out)).reads HLA.out) (rowZ_one _) (by simp only [maxLen]; omega) (by omega) (by simp) ?_
       intro v5 w5 hown5 hg5 hat5
       rw [Nat.zero_add, List.nil_append] at hown5
       obtain ⟨A5, c5, rfl⟩ := own_slice hown5
       have HX := Lib.hid (⟨hown5, (ba HB1.out).grown hg5 (by simp; omega) (fun q hq => by cases hq; exact hz1)⟩ : w5.ownsRow w1.heap.size 3 1 (.slice A5 n c5) n (rowZ a) ∧ Below w.heap.size w w5)
       have hz5 := HX.out.2.size
       clear hown5 hg5 hat5)
    | (at_builtin
       go_must (refine wpList_append_any _ rfl (.tmp 23) (.tmp 24) _ rfl w5.heap.size 3 i3 _ 1 8 Tryd.underlying55 hi3 hz30 hz31 hz32 rfl (by omega) (.slice (some ⟨w5.heap.size, 0, none⟩) 0 0) 0 [] rfl (own_empty w5) _ B m cb (rowZ b) rfl ((HBB.out.below (ba HX.out.2)).reads HLB.out) (rowZ_one _) (by simp only [maxLen]; omega) (by omega) (by simp) ?_)
       intro v6 w6 hown6 hg6 hat6
       rw [Nat.zero_add, List.nil_append] at hown6
       obtain ⟨A6, c6, rfl⟩ := own_slice hown6
       have HY := Lib.hid (⟨hown6, (ba HX.out.2).grown hg6 (by simp; omega) (fun q hq => by cases hq; exact hz5), (ba (Below.refl w5.heap.size w5)).grown hg6 (by simp) (fun q hq => by cases hq; exact Nat.le_refl _)⟩ : w6.ownsRow w5.heap.size 3 1 (.slice A6 m c6) m (rowZ b) ∧ Below w.heap.size w w6 ∧ Below w5.heap.size w5 w6)
       clear hown6 hg6 hat6)
    | fail)
  have IX : IR w6 A5 a := (own_IR HX.out.1).below HY.out.2.2
  have IY : IR w6 A6 b := own_IR HY.out.1
  have IA : IR w6 A a := HA.out.below HY.out.2.1
  have IB : IR w6 B b := HBB.out.below HY.out.2.1
  have la := HLA.out
  have lb := HLB.out
  have K1 : Hid (∀ W, Below w6.heap.size w6 W → Calls Tryd.prog 41 #[.slice A5 n c5] W (Lft W (ordZ a))) := Lib.hid fun W h => (order_any _ A5 n c5 a W ((IX.below h).rd la) (by omega)).mono fun _ _ h => ord_lft h
  have K2 : Hid (∀ W, Below w6.heap.size w6 W → Calls Tryd.prog 42 #[.slice A n ca] W (Lft W (ordZ a))) := Lib.hid fun W h => (orderRef A n ca a W (IA.below h) la (by omega)).mono fun _ _ h => ord_lft h
  have K3 : Hid (∀ W, Below w6.heap.size w6 W → Calls Tryd.prog 43 #[.slice A5 n c5, .slice A6 m c6] W (Lft W (ordZ (a ++ b)))) := Lib.hid fun W h => (union_any A5 A6 n m c5 c6 a b W (IX.below h) (IY.below h) la lb (by omega) (by omega)).mono fun _ _ h => ord_lft h
  have K4 : Hid (∀ W, Below w6.heap.size w6 W → Calls Tryd.prog 44 #[.int .i64 0, .slice A n ca, .slice B m cb] W (Lft W (ordZ (a ++ b)))) := Lib.hid fun W h => (setRef 0 A B n m ca cb a b W (IA.below h) (IB.below h) la lb (by omega) (by omega)).mono fun _ _ h => by rw [← filt_zero]; exact ord_lft h
  have K5 : Hid (∀ W, Below w6.heap.size w6 W → Calls Tryd.prog 45 #[.slice A5 n c5, .slice A6 m c6] W (Lft W (pickZ a b true))) := Lib.hid fun W h => (inter_any A5 A6 n m c5 c6 a b W (IX.below h) (IY.below h) la lb (by omega) (by omega)).mono fun _ _ h => h.lft
  have K6 : Hid (∀ W, Below w6.heap.size w6 W → Calls Tryd.prog 44 #[.int .i64 1, .slice A n ca, .slice B m cb] W (Lft W (pickZ a b true))) := Lib.hid fun W h => (setRef 1 A B n m ca cb a b W (IA.below h) (IB.below h) la lb (by omega) (by omega)).mono fun _ _ h => by rw [← filt_one]; exact ord_lft h
  have K7 : Hid (∀ W, Below w6.heap.size w6 W → Calls Tryd.prog 46 #[.slice A5 n c5, .slice A6 m c6] W (Lft W (pickZ a b false))) := Lib.hid fun W h => (except_any A5 A6 n m c5 c6 a b W (IX.below h) (IY.below h) la lb (by omega) (by omega)).mono fun _ _ h => h.lft
  have K8 : Hid (∀ W, Below w6.heap.size w6 W → Calls Tryd.prog 44 #[.int .i64 2, .slice A n ca, .slice B m cb] W (Lft W (pickZ a b false))) := Lib.hid fun W h => (setRef 2 A B n m ca cb a b W (IA.below h) (IB.below h) la lb (by omega) (by omega)).mono fun _ _ h => by rw [← filt_two]; exact ord_lft h
  have hl1 : (ordZ a).length ≤ 300 := by have := ordZ_len a; omega
  have hl2 : (ordZ (a ++ b)).length ≤ 600 := by have := ordZ_len (a ++ b); rw [List.length_append] at this; omega
  have hl3 : (pickZ a b true).length ≤ 300 := Nat.le_trans (List.length_filter_le _ _) hl1
  have hl4 : (pickZ a b false).length ≤ 300 := Nat.le_trans (List.length_filter_le _ _) hl1
  obtain ⟨z1, q1⟩ : ∃ z, ordZ a = z := ⟨_, rfl⟩
  obtain ⟨z2, q2⟩ : ∃ z, ordZ (a ++ b) = z := ⟨_, rfl⟩
  obtain ⟨z3, q3⟩ : ∃ z, pickZ a b true = z := ⟨_, rfl⟩
  obtain ⟨z4, q4⟩ : ∃ z, pickZ a b false = z := ⟨_, rfl⟩
  rw [q1] at K1 K2 hl1
  rw [q2] at K3 K4 hl2
  rw [q3] at K5 K6 hl3
  rw [q4] at K7 K8 hl4
  have KX : Hid (∀ W, Below w6.heap.size w6 W → Calls Tryd.prog 36 #[.slice A5 n c5, .slice A n ca] W fun e w' => e = .returned (.bool true) ∧ Below W.heap.size W w') := Lib.hid fun W h => ints_same A5 A a n c5 ca W la (by omega) (IX.below h) (IA.below h)
  have KY : Hid (∀ W, Below w6.heap.size w6 W → Calls Tryd.prog 36 #[.slice A6 m c6, .slice B m cb] W fun e w' => e = .returned (.bool true) ∧ Below W.heap.size W w') := Lib.hid fun W h => ints_same A6 B b m c6 cb W lb (by omega) (IY.below h) (IB.below h)
  have HL := Lib.hid (⟨hl1, hl2, hl3, hl4⟩ : z1.length ≤ 300 ∧ z2.length ≤ 600 ∧ z3.length ≤ 300 ∧ z4.length ≤ 300)
  clear IX IY IA IB la lb q1 q2 q3 q4 hl1 hl2 hl3 hl4 HX hz5 hz1
  go_wp2_with fail
  refine (K1.out w6 (Below.refl w6.heap.size w6)).mono ?_
  rintro e w7 ⟨P7, d7, rfl, i7, h7⟩
  have I7 := Lib.hid i7; have E7 := Lib.hid h7
  have B7 := Lib.hid (bt (Below.refl w6.heap.size w6) h7)
  clear h7 i7
  go_wp2_with fail
  refine (K2.out w7 B7.out).mono ?_
  rintro e w8 ⟨P8, d8, rfl, i8, h8⟩
  have I8 := Lib.hid i8; have E8 := Lib.hid h8
  have B8 := Lib.hid (bt B7.out h8)
  clear h8 i8
  go_wp2_with fail
  refine (ints_same P7 P8 z1 z1.length d7 d8 w8 rfl (by have := HL.out.1; omega) (I7.out.below E8.out) I8.out).mono ?_
  rintro e w9 ⟨rfl, h9⟩
  have B9 := Lib.hid (bt B8.out h9)
  clear h9
  go_wp2_with fail
  refine (K3.out w9 B9.out).mono ?_
  rintro e w10 ⟨P10, d10, rfl, i10, h10⟩
  have I10 := Lib.hid i10; have E10 := Lib.hid h10
  have B10 := Lib.hid (bt B9.out h10)
  clear h10 i10
  go_wp2_with fail
  refine (K4.out w10 B10.out).mono ?_
  rintro e w11 ⟨P11, d11, rfl, i11, h11⟩
  have I11 := Lib.hid i11; have E11 := Lib.hid h11
  have B11 := Lib.hid (bt B10.out h11)
  clear h11 i11
  go_wp2_with fail
  refine (ints_same P10 P11 z2 z2.length d10 d11 w11 rfl (by have := HL.out.2.1; omega) (I10.out.below E11.out) I11.out).mono ?_
  rintro e w12 ⟨rfl, h12⟩
  have B12 := Lib.hid (bt B11.out h12)
  clear h12
  go_wp2_with fail
  refine (K5.out w12 B12.out).mono ?_
  rintro e w13 ⟨P13, d13, rfl, i13, h13⟩
  have I13 := Lib.hid i13; have E13 := Lib.hid h13
  have B13 := Lib.hid (bt B12.out h13)
  clear h13 i13
  go_wp2_with fail
  refine (K6.out w13 B13.out).mono ?_
  rintro e w14 ⟨P14, d14, rfl, i14, h14⟩
  have I14 := Lib.hid i14; have E14 := Lib.hid h14
  have B14 := Lib.hid (bt B13.out h14)
  clear h14 i14
  go_wp2_with fail
  refine (ints_same P13 P14 z3 z3.length d13 d14 w14 rfl (by have := HL.out.2.2.1; omega) (I13.out.below E14.out) I14.out).mono ?_
  rintro e w15 ⟨rfl, h15⟩
  have B15 := Lib.hid (bt B14.out h15)
  clear h15
  go_wp2_with fail
  refine (K7.out w15 B15.out).mono ?_
  rintro e w16 ⟨P16, d16, rfl, i16, h16⟩
  have I16 := Lib.hid i16; have E16 := Lib.hid h16
  have B16 := Lib.hid (bt B15.out h16)
  clear h16 i16
  go_wp2_with fail
  refine (K8.out w16 B16.out).mono ?_
  rintro e w17 ⟨P17, d17, rfl, i17, h17⟩
  have I17 := Lib.hid i17; have E17 := Lib.hid h17
  have B17 := Lib.hid (bt B16.out h17)
  clear h17 i17
  go_wp2_with fail
  refine (ints_same P16 P17 z4 z4.length d16 d17 w17 rfl (by have := HL.out.2.2.2; omega) (I16.out.below E17.out) I17.out).mono ?_
  rintro e w18 ⟨rfl, h18⟩
  have B18 := Lib.hid (bt B17.out h18)
  clear h18
  go_wp2_with fail
  refine (KX.out w18 B18.out).mono ?_
  rintro e w19 ⟨rfl, h19⟩
  have B19 := Lib.hid (bt B18.out h19)
  clear h19
  go_wp2_with fail
  refine (KY.out w19 B19.out).mono ?_
  rintro e w20 ⟨rfl, h20⟩
  have B20 := Lib.hid (bt B19.out h20)
  clear h20
  have BE := bt HY.out.2.1 B20.out
  go_wp2
  go_ret
  exact ⟨rfl, BE⟩
theorem axsets_law (A B : Option Addr) (ca cb : Nat) (a b : List Int) (w : World) (hT : tabs w) (hA : IR w A a) (hB : IR w B b) :
    Calls Tryd.prog 9 #[.slice A a.length ca, .slice B b.length cb] w fun e w' => e = .returned (.bool true) ∧ Below w.heap.size w w' := by
  have HAW : Hid (∀ W, Below w.heap.size w W → Calls Tryd.prog 33 #[] W fun e w' => e = .returned (.bool true) ∧ Below W.heap.size W w') := Lib.hid fun W h => awake6 W (Utf8Tabs_below hT h)
  by_cases h : 300 < a.length ∨ 300 < b.length
  · exact sets_big A B _ _ ca cb w h HAW
  · exact sets_walk A B _ _ ca cb a b w hA hB rfl rfl (by omega) (by omega) HAW
end Go.Proofs.YtcmlfkoeajpliaaDoor
namespace Go.Proofs.YtcmlfkoeajpliaaDoor
open Go.Joins Go.ChangeShapes Go.WideShapes Go.ChangeAt Go.RowKit Go.Lib Go.Deep
set_option maxRecDepth 100000
theorem open_numsI {H : Type} {enc : TypeId × Value → H} {W : World} {base b0 : Nat} {held : Bool} {r : Reach} {v : Value} {d : DataW H} {p : List MemPlace} (hv : Value.okWide Tryd.prog W r b0 55 v) (h : DataW.Trod enc Tryd.prog W base (fun _ => true) held 55 v d p) :
    ∃ (A : Option Addr) (cap : Nat) (zs : List Int), v = .slice A zs.length cap ∧ IR W A zs := by
  obtain ⟨A, len, cap, rfl⟩ := okWide_slice Tryd.underlying55 hv
  obtain ⟨fuel, hf⟩ := h
  rcases open_ints Tryd.underlying55 Tryd.underlying3 (by kernel_rfl) hf with ⟨hcs, _⟩ | ⟨x, l, c, zs, hcs, _, hl, hm, hz, _, hcell, hwz⟩
  · simp [Value.cells] at hcs
    obtain ⟨rfl, rfl, rfl⟩ := hcs
    exact ⟨none, 0, [], rfl, fun h => absurd rfl h⟩
  · simp [Value.cells] at hcs
    obtain ⟨rfl, rfl, rfl⟩ := hcs
    simp only [if_true] at hz
    refine ⟨some x, cap, zs.take len, by rw [List.length_take, Nat.min_eq_left (by omega)], fun _ => ⟨x, rfl, fun j d hj => ?_⟩⟩
    rw [List.getElem?_take] at hj
    split at hj
    · rename_i hjl
      have hjz : j < zs.length := by omega
      rw [hcell j hjz, List.getD_eq_getElem?_getD, hj]
      rfl
    · cases hj
end Go.Proofs.YtcmlfkoeajpliaaDoor
