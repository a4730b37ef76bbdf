/- The statement DecEven: its walk. No condition beyond what the theorems state. -/
import Derived.Test.YtmggffhecopgiaaDoorLawOrders
namespace Go.Proofs
open Go.Shelf Go.RowKit Go.Proofs.Wide
def EvI (w0 : World) (n1 k1 n2 k2 xn xk xe zn zk ze x y : Int) (c : Bool) (g5 g7 g9 g11 : Nat) (listed : Array Bool) (A : Act) (w : World) : Prop := ∃ (s62 s63 s64 s65 s66 s67 s68 s69 s70 s71 s72 s73 s74 s75 s76 s77 s78 s79 s80 s81 s82 s83 s84 s85 s86 s87 s88 s89 s90 s91 s92 s93 s94 s95 s96 s97 s98 s99 : Value), A = { tmps := #[.agg #[.int .i64 (n1), .int .i64 (k1)], .agg #[.int .i64 (n2), .int .i64 (k2)], .pointer (some ⟨w0.heap.size, 0, none⟩), .pointer (some ⟨w0.heap.size + 1, 0, none⟩), .bool false, .pointer (some ⟨g5, 0, none⟩), .int .i64 xe, .pointer (some ⟨g7, 0, none⟩), .int .i64 xe, .pointer (some ⟨g9, 0, none⟩), .int .i64 ze, .pointer (some ⟨g11, 0, none⟩), .int .i64 ze, undef, undef, undef, undef, undef, undef, undef, undef, undef, undef, undef, undef, .bool true, .bool false, .bool false, .agg #[.int .i64 (n1), .int .i64 (k1)], .bool true, .bool false, .bool false, .bool false, .agg #[.int .i64 (n2), .int .i64 (k2)], .bool true, .bool false, .bool false, undef, .tuple #[.agg #[.int .i64 (xn), .int .i64 (xk)], .int .i64 xe], .agg #[.int .i64 (n1), .int .i64 (k1)], .agg #[.int .i64 (n2), .int .i64 (k2)], .tuple #[.agg #[.int .i64 (xn), .int .i64 (xk)], .int .i64 xe], .agg #[.int .i64 (xn), .int .i64 (xk)], .int .i64 xe, .tuple #[.agg #[.int .i64 (xn), .int .i64 (xk)], .int .i64 xe], .agg #[.int .i64 (n2), .int .i64 (k2)], .agg #[.int .i64 (n1), .int .i64 (k1)], .tuple #[.agg #[.int .i64 (xn), .int .i64 (xk)], .int .i64 xe], .agg #[.int .i64 (xn), .int .i64 (xk)], .int .i64 xe, .tuple #[.agg #[.int .i64 (zn), .int .i64 (zk)], .int .i64 ze], .agg #[.int .i64 (n1), .int .i64 (k1)], .agg #[.int .i64 (n2), .int .i64 (k2)], .tuple #[.agg #[.int .i64 (zn), .int .i64 (zk)], .int .i64 ze], .agg #[.int .i64 (zn), .int .i64 (zk)], .int .i64 ze, .tuple #[.agg #[.int .i64 (zn), .int .i64 (zk)], .int .i64 ze], .agg #[.int .i64 (n2), .int .i64 (k2)], .agg #[.int .i64 (n1), .int .i64 (k1)], .tuple #[.agg #[.int .i64 (zn), .int .i64 (zk)], .int .i64 ze], .agg #[.int .i64 (zn), .int .i64 (zk)], .int .i64 ze, s62, s63, s64, s65, s66, s67, s68, s69, s70, s71, s72, s73, s74, s75, s76, s77, s78, s79, s80, s81, s82, s83, s84, s85, s86, s87, s88, s89, s90, s91, s92, s93, s94, s95, s96, s97, s98, s99, undef, undef, undef, undef, undef, undef, undef, undef, undef, undef, undef, undef, undef, undef, undef, undef, undef, undef, undef, undef, undef, undef, undef, undef, undef, undef, undef, undef, undef, undef, undef, undef, undef, undef, undef, undef, undef, undef, undef, undef, undef, undef, undef, undef, undef, undef, undef, undef, undef, undef, undef, undef, undef, undef, undef, undef, undef, undef, undef, undef, undef, undef, undef, undef, undef, undef, undef, undef, undef, undef, undef, undef, undef, undef, undef, undef, undef, undef, undef, undef, undef, undef, undef, undef, undef, undef, undef, undef, undef, undef], defers := [] } ∧
  (listed.getD 0 false = true → s62 = .agg #[.int .i64 (xn), .int .i64 (xk)]) ∧
  (listed.getD 1 false = true → s63 = .agg #[.int .i64 (xn), .int .i64 (xk)]) ∧
  (listed.getD 2 false = true → s64 = .bool false) ∧
  (listed.getD 3 false = true → s65 = .bool false) ∧
  (listed.getD 4 false = true → s66 = .int .i64 xe) ∧
  (listed.getD 5 false = true → s67 = .int .i64 xe) ∧
  (listed.getD 6 false = true → s68 = .bool false) ∧
  (listed.getD 7 false = true → s69 = .bool false) ∧
  (listed.getD 8 false = true → s70 = .bool false) ∧
  (listed.getD 9 false = true → s71 = .agg #[.int .i64 (zn), .int .i64 (zk)]) ∧
  (listed.getD 10 false = true → s72 = .agg #[.int .i64 (zn), .int .i64 (zk)]) ∧
  (listed.getD 11 false = true → s73 = .bool false) ∧
  (listed.getD 12 false = true → s74 = .bool false) ∧
  (listed.getD 13 false = true → s75 = .bool false) ∧
  (listed.getD 14 false = true → s76 = .int .i64 ze) ∧
  (listed.getD 15 false = true → s77 = .int .i64 ze) ∧
  (listed.getD 16 false = true → s78 = .bool false) ∧
  (listed.getD 17 false = true → s79 = .bool false) ∧
  (listed.getD 18 false = true → s80 = .bool false) ∧
  (listed.getD 19 false = true → s81 = .agg #[.int .i64 (n1), .int .i64 (k1)]) ∧
  (listed.getD 20 false = true → s82 = .agg #[.int .i64 (n2), .int .i64 (k2)]) ∧
  (listed.getD 21 false = true → s83 = .int .i64 x) ∧
  (listed.getD 22 false = true → s84 = .agg #[.int .i64 (n2), .int .i64 (k2)]) ∧
  (listed.getD 23 false = true → s85 = .agg #[.int .i64 (n1), .int .i64 (k1)]) ∧
  (listed.getD 24 false = true → s86 = .int .i64 y) ∧
  (listed.getD 25 false = true → s87 = .int .i64 x) ∧
  (listed.getD 26 false = true → s88 = .bool false) ∧
  (listed.getD 27 false = true → s89 = .bool false) ∧
  (listed.getD 28 false = true → s90 = .bool false) ∧
  (listed.getD 29 false = true → s91 = .agg #[.int .i64 (n1), .int .i64 (k1)]) ∧
  (listed.getD 30 false = true → s92 = .agg #[.int .i64 (n2), .int .i64 (k2)]) ∧
  (listed.getD 31 false = true → s93 = .int .i64 x) ∧
  (listed.getD 32 false = true → s94 = .bool c) ∧
  (listed.getD 33 false = true → s95 = .agg #[.int .i64 (n1), .int .i64 (k1)]) ∧
  (listed.getD 34 false = true → s96 = .agg #[.int .i64 (n2), .int .i64 (k2)]) ∧
  (listed.getD 35 false = true → s97 = .bool c) ∧
  (listed.getD 36 false = true → s98 = .bool false) ∧
  (listed.getD 37 false = true → s99 = .bool false) ∧
  Below w0.heap.size w0 w ∧
  Own w (w0.heap.size) (.int .i64 n1) (.int .i64 k1) ∧
  Own w (w0.heap.size + 1) (.int .i64 n2) (.int .i64 k2) ∧
  Own w (g5) (.int .i64 xn) (.int .i64 xk) ∧
  Own w (g7) (.int .i64 xn) (.int .i64 xk) ∧
  Own w (g9) (.int .i64 zn) (.int .i64 zk) ∧
  Own w (g11) (.int .i64 zn) (.int .i64 zk)

set_option maxRecDepth 100000 in
set_option maxHeartbeats 16000000 in
theorem even_core (n1 k1 n2 k2 xn xk xe zn zk ze x y dn dk de qn qk qe rn rk re pn pk pe : Int) (c : Bool) (w0 : World) (W : Hid (Gives 8 #[] (.bool true))) (R1 : Hid (Gives 10 #[.agg #[.int .i64 (n1), .int .i64 (k1)]] (.bool true))) (R2 : Hid (Gives 10 #[.agg #[.int .i64 (n2), .int .i64 (k2)]] (.bool true)))
    (A1h : Hid (Gives 18 #[.agg #[.int .i64 (n1), .int .i64 (k1)], .agg #[.int .i64 (n2), .int .i64 (k2)]] (.tuple #[.agg #[.int .i64 (xn), .int .i64 (xk)], .int .i64 xe]))) (A2h : Hid (Gives 18 #[.agg #[.int .i64 (n2), .int .i64 (k2)], .agg #[.int .i64 (n1), .int .i64 (k1)]] (.tuple #[.agg #[.int .i64 (xn), .int .i64 (xk)], .int .i64 xe]))) (M1h : Hid (Gives 20 #[.agg #[.int .i64 (n1), .int .i64 (k1)], .agg #[.int .i64 (n2), .int .i64 (k2)]] (.tuple #[.agg #[.int .i64 (zn), .int .i64 (zk)], .int .i64 ze]))) (M2h : Hid (Gives 20 #[.agg #[.int .i64 (n2), .int .i64 (k2)], .agg #[.int .i64 (n1), .int .i64 (k1)]] (.tuple #[.agg #[.int .i64 (zn), .int .i64 (zk)], .int .i64 ze])))
    (K1 : Hid (Gives 25 #[.agg #[.int .i64 (n1), .int .i64 (k1)], .agg #[.int .i64 (n2), .int .i64 (k2)]] (.int .i64 x))) (K2 : Hid (Gives 25 #[.agg #[.int .i64 (n2), .int .i64 (k2)], .agg #[.int .i64 (n1), .int .i64 (k1)]] (.int .i64 y))) (wy : IntKind.i64.wrap (-y) = x) (hc : (x == 0) = c) (hv : (n1 = n2 ∧ k1 = k2 ∧ c = true) ∨ (¬ n1 = n2 ∧ c = false) ∨ (n1 = n2 ∧ ¬ k1 = k2 ∧ c = false)) 
    (S : Hid (Gives 19 #[.agg #[.int .i64 (n1), .int .i64 (k1)], .agg #[.int .i64 (n2), .int .i64 (k2)]] (.tuple #[.agg #[.int .i64 dn, .int .i64 dk], .int .i64 de])))
    (hS : ¬ de = 0 ∨ (de = 0 ∧ Hid (Gives 18 #[.agg #[.int .i64 dn, .int .i64 dk], .agg #[.int .i64 (n2), .int .i64 (k2)]] (.tuple #[.agg #[.int .i64 (n1), .int .i64 (k1)], .int .i64 0]))))
    (I : Hid (Gives 22 #[.agg #[.int .i64 (n1), .int .i64 (k1)], .agg #[.int .i64 (n2), .int .i64 (k2)]] (.tuple #[.agg #[.int .i64 qn, .int .i64 qk], .int .i64 qe]))) (Mo : Hid (Gives 23 #[.agg #[.int .i64 (n1), .int .i64 (k1)], .agg #[.int .i64 (n2), .int .i64 (k2)]] (.tuple #[.agg #[.int .i64 rn, .int .i64 rk], .int .i64 re])))
    (hT : (n2 = 0 ∧ qe = 52 ∧ re = 52) ∨ (¬ n2 = 0 ∧ re = 0 ∧ (rn = 0 ∨ (¬ rn = 0 ∧ decide (rn < 0) = decide (n1 < 0))) ∧ (qe = 53 ∨ (qe = 0 ∧ qk = 0 ∧ Hid (Gives 20 #[.agg #[.int .i64 qn, .int .i64 qk], .agg #[.int .i64 (n2), .int .i64 (k2)]] (.tuple #[.agg #[.int .i64 pn, .int .i64 pk], .int .i64 pe])) ∧
      (pe = 53 ∨ (pe = 0 ∧ Hid (Gives 18 #[.agg #[.int .i64 pn, .int .i64 pk], .agg #[.int .i64 rn, .int .i64 rk]] (.tuple #[.agg #[.int .i64 (n1), .int .i64 (k1)], .int .i64 0])))))))) :
    Calls Tryd.prog 5 #[nv n1 k1, nv n2 k2] w0 fun e w' => e = .returned (.bool true) ∧ Below w0.heap.size w0 w' := by
  unfold nv
  have HC := Lib.hid hc; have HV := Lib.hid hv; have WY := Lib.hid wy; have HHS := Lib.hid hS; have HHT := Lib.hid hT
  clear hc hv wy hS hT
  go_enter Tryd.func5, Tryd.ntmps5
  go_wp2_with fail
  go_at_call 8; refine (W.out.call _).mono ?_; rintro e w1 ⟨rfl, hb1⟩
  have A1 : Own w1 w0.heap.size (.int .i64 n1) (.int .i64 k1) := ((Own.new_at (by simp)).alloc _).call hb1
  have B1 : Own w1 (w0.heap.size + 1) (.int .i64 n2) (.int .i64 k2) := (Own.new_at (by simp)).call hb1
  obtain ⟨A1a, A1b, A1c, A1d⟩ := id A1
  have A1l := A1.lt
  obtain ⟨B1a, B1b, B1c, B1d⟩ := id B1
  have B1l := B1.lt
  go_wp2_with fail
  go_at_call 10; refine (R1.out.call _).mono ?_; rintro e w2 ⟨rfl, hb2⟩
  have A2 : Own w2 (w0.heap.size) (.int .i64 n1) (.int .i64 k1) := by first | exact A1.call hb2 | exact (A1.alloc _).call hb2 | exact ((A1.alloc _).alloc _).call hb2
  have B2 : Own w2 (w0.heap.size + 1) (.int .i64 n2) (.int .i64 k2) := by first | exact B1.call hb2 | exact (B1.alloc _).call hb2 | exact ((B1.alloc _).alloc _).call hb2
  try clear A1a A1b A1c A1d A1l B1a B1b B1c B1d B1l
  obtain ⟨A2a, A2b, A2c, A2d⟩ := id A2
  have A2l := A2.lt
  obtain ⟨B2a, B2b, B2c, B2d⟩ := id B2
  have B2l := B2.lt
  go_wp2_with fail
  go_at_call 10; refine (R2.out.call _).mono ?_; rintro e w3 ⟨rfl, hb3⟩
  have A3 : Own w3 (w0.heap.size) (.int .i64 n1) (.int .i64 k1) := by first | exact A2.call hb3 | exact (A2.alloc _).call hb3 | exact ((A2.alloc _).alloc _).call hb3
  have B3 : Own w3 (w0.heap.size + 1) (.int .i64 n2) (.int .i64 k2) := by first | exact B2.call hb3 | exact (B2.alloc _).call hb3 | exact ((B2.alloc _).alloc _).call hb3
  try clear A2a A2b A2c A2d A2l B2a B2b B2c B2d B2l
  obtain ⟨A3a, A3b, A3c, A3d⟩ := id A3
  have A3l := A3.lt
  obtain ⟨B3a, B3b, B3c, B3d⟩ := id B3
  have B3l := B3.lt
  go_wp2_with fail
  go_at_call 18; refine (A1h.out.call _).mono ?_; rintro e w4 ⟨rfl, hb4⟩
  have A4 : Own w4 (w0.heap.size) (.int .i64 n1) (.int .i64 k1) := by first | exact A3.call hb4 | exact (A3.alloc _).call hb4 | exact ((A3.alloc _).alloc _).call hb4
  have B4 : Own w4 (w0.heap.size + 1) (.int .i64 n2) (.int .i64 k2) := by first | exact B3.call hb4 | exact (B3.alloc _).call hb4 | exact ((B3.alloc _).alloc _).call hb4
  try clear A3a A3b A3c A3d A3l B3a B3b B3c B3d B3l
  obtain ⟨A4a, A4b, A4c, A4d⟩ := id A4
  have A4l := A4.lt
  obtain ⟨B4a, B4b, B4c, B4d⟩ := id B4
  have B4l := B4.lt
  go_wp2_with fail
  go_at_call 18; refine (A2h.out.call _).mono ?_; rintro e w5 ⟨rfl, hb5⟩
  have A5 : Own w5 (w0.heap.size) (.int .i64 n1) (.int .i64 k1) := by first | exact A4.call hb5 | exact (A4.alloc _).call hb5 | exact ((A4.alloc _).alloc _).call hb5
  have B5 : Own w5 (w0.heap.size + 1) (.int .i64 n2) (.int .i64 k2) := by first | exact B4.call hb5 | exact (B4.alloc _).call hb5 | exact ((B4.alloc _).alloc _).call hb5
  have C5 : Own w5 (w4.heap.size) (.int .i64 xn) (.int .i64 xk) := by first | exact (Own.new_at (by simp) : Own (w4.alloc _) w4.heap.size _ _).call hb5 | exact ((Own.new_at (by simp) : Own (w4.alloc _) w4.heap.size _ _).alloc _).call hb5 | exact (((Own.new_at (by simp) : Own (w4.alloc _) w4.heap.size _ _).alloc _).alloc _).call hb5
  try clear A4a A4b A4c A4d A4l B4a B4b B4c B4d B4l
  obtain ⟨A5a, A5b, A5c, A5d⟩ := id A5
  have A5l := A5.lt
  obtain ⟨B5a, B5b, B5c, B5d⟩ := id B5
  have B5l := B5.lt
  go_wp2_with fail
  go_at_call 20; refine (M1h.out.call _).mono ?_; rintro e w6 ⟨rfl, hb6⟩
  have A6 : Own w6 (w0.heap.size) (.int .i64 n1) (.int .i64 k1) := by first | exact A5.call hb6 | exact (A5.alloc _).call hb6 | exact ((A5.alloc _).alloc _).call hb6
  have B6 : Own w6 (w0.heap.size + 1) (.int .i64 n2) (.int .i64 k2) := by first | exact B5.call hb6 | exact (B5.alloc _).call hb6 | exact ((B5.alloc _).alloc _).call hb6
  have C6 : Own w6 (w4.heap.size) (.int .i64 xn) (.int .i64 xk) := by first | exact C5.call hb6 | exact (C5.alloc _).call hb6 | exact ((C5.alloc _).alloc _).call hb6
  have D6 : Own w6 (w5.heap.size) (.int .i64 xn) (.int .i64 xk) := by first | exact (Own.new_at (by simp) : Own (w5.alloc _) w5.heap.size _ _).call hb6 | exact ((Own.new_at (by simp) : Own (w5.alloc _) w5.heap.size _ _).alloc _).call hb6 | exact (((Own.new_at (by simp) : Own (w5.alloc _) w5.heap.size _ _).alloc _).alloc _).call hb6
  try clear A5a A5b A5c A5d A5l B5a B5b B5c B5d B5l
  obtain ⟨A6a, A6b, A6c, A6d⟩ := id A6
  have A6l := A6.lt
  obtain ⟨B6a, B6b, B6c, B6d⟩ := id B6
  have B6l := B6.lt
  go_wp2_with fail
  go_at_call 20; refine (M2h.out.call _).mono ?_; rintro e w7 ⟨rfl, hb7⟩
  have A7 : Own w7 (w0.heap.size) (.int .i64 n1) (.int .i64 k1) := by first | exact A6.call hb7 | exact (A6.alloc _).call hb7 | exact ((A6.alloc _).alloc _).call hb7
  have B7 : Own w7 (w0.heap.size + 1) (.int .i64 n2) (.int .i64 k2) := by first | exact B6.call hb7 | exact (B6.alloc _).call hb7 | exact ((B6.alloc _).alloc _).call hb7
  have C7 : Own w7 (w4.heap.size) (.int .i64 xn) (.int .i64 xk) := by first | exact C6.call hb7 | exact (C6.alloc _).call hb7 | exact ((C6.alloc _).alloc _).call hb7
  have D7 : Own w7 (w5.heap.size) (.int .i64 xn) (.int .i64 xk) := by first | exact D6.call hb7 | exact (D6.alloc _).call hb7 | exact ((D6.alloc _).alloc _).call hb7
  have E7 : Own w7 (w6.heap.size) (.int .i64 zn) (.int .i64 zk) := by first | exact (Own.new_at (by simp) : Own (w6.alloc _) w6.heap.size _ _).call hb7 | exact ((Own.new_at (by simp) : Own (w6.alloc _) w6.heap.size _ _).alloc _).call hb7 | exact (((Own.new_at (by simp) : Own (w6.alloc _) w6.heap.size _ _).alloc _).alloc _).call hb7
  try clear A6a A6b A6c A6d A6l B6a B6b B6c B6d B6l
  obtain ⟨A7a, A7b, A7c, A7d⟩ := id A7
  have A7l := A7.lt
  obtain ⟨B7a, B7b, B7c, B7d⟩ := id B7
  have B7l := B7.lt
  go_upto_region 7 with fail
  try clear A7a A7b A7c A7d A7l B7a B7b B7c B7d B7l
  have A8 := A7.alloc (.cells #[.int .i64 zn, .int .i64 zk] 23)
  have B8 := B7.alloc (.cells #[.int .i64 zn, .int .i64 zk] 23)
  have C8 := C7.alloc (.cells #[.int .i64 zn, .int .i64 zk] 23)
  have D8 := D7.alloc (.cells #[.int .i64 zn, .int .i64 zk] 23)
  have E8 := E7.alloc (.cells #[.int .i64 zn, .int .i64 zk] 23)
  have F8 : Own (w7.alloc (.cells #[.int .i64 zn, .int .i64 zk] 23)) w7.heap.size (.int .i64 zn) (.int .i64 zk) := Own.new_at rfl
  have HB0 : Below w0.heap.size w0 (w7.alloc (.cells #[.int .i64 zn, .int .i64 zk] 23)) := by repeat (first | exact Below.refl _ _ | apply ba | (refine bt ?_ (by assumption)))

  have hc := HC.out; have wy := WY.out
  refine wp_region_inv (by kernel_rfl) (by kernel_rfl) (EvI w0 n1 k1 n2 k2 xn xk xe zn zk ze x y c w4.heap.size w5.heap.size w6.heap.size w7.heap.size) ?_ ?_ ?_
  · exact ⟨_, _, _, _, _, _, _, _, _, _, _, _, _, _, _, _, _, _, _, _, _, _, _, _, _, _, _, _, _, _, _, _, _, _, _, _, _, _, rfl, fun h => absurd h l0, fun h => absurd h l0, fun h => absurd h l0, fun h => absurd h l0, fun h => absurd h l0, fun h => absurd h l0, fun h => absurd h l0, fun h => absurd h l0, fun h => absurd h l0, fun h => absurd h l0, fun h => absurd h l0, fun h => absurd h l0, fun h => absurd h l0, fun h => absurd h l0, fun h => absurd h l0, fun h => absurd h l0, fun h => absurd h l0, fun h => absurd h l0, fun h => absurd h l0, fun h => absurd h l0, fun h => absurd h l0, fun h => absurd h l0, fun h => absurd h l0, fun h => absurd h l0, fun h => absurd h l0, fun h => absurd h l0, fun h => absurd h l0, fun h => absurd h l0, fun h => absurd h l0, fun h => absurd h l0, fun h => absurd h l0, fun h => absurd h l0, fun h => absurd h l0, fun h => absurd h l0, fun h => absurd h l0, fun h => absurd h l0, fun h => absurd h l0, fun h => absurd h l0, bdr HB0, A8.drew, B8.drew, C8.drew, D8.drew, E8.drew, F8.drew⟩
  · intro i o listed A w hi ho hd hn hI
    obtain ⟨s62, s63, s64, s65, s66, s67, s68, s69, s70, s71, s72, s73, s74, s75, s76, s77, s78, s79, s80, s81, s82, s83, s84, s85, s86, s87, s88, s89, s90, s91, s92, s93, s94, s95, s96, s97, s98, s99, rfl, F0, F1, F2, F3, F4, F5, F6, F7, F8, F9, F10, F11, F12, F13, F14, F15, F16, F17, F18, F19, F20, F21, F22, F23, F24, F25, F26, F27, F28, F29, F30, F31, F32, F33, F34, F35, F36, F37, F38, F39, F40, F41, F42, F43, F44⟩ := hI
    have hi' : i < 38 := hi
    clear hi
    rcases (by omega : i = 0 ∨ i = 1 ∨ i = 2 ∨ i = 3 ∨ i = 4 ∨ i = 5 ∨ i = 6 ∨ i = 7 ∨ i = 8 ∨ i = 9 ∨ i = 10 ∨ i = 11 ∨ i = 12 ∨ i = 13 ∨ i = 14 ∨ i = 15 ∨ i = 16 ∨ i = 17 ∨ i = 18 ∨ i = 19 ∨ i = 20 ∨ i = 21 ∨ i = 22 ∨ i = 23 ∨ i = 24 ∨ i = 25 ∨ i = 26 ∨ i = 27 ∨ i = 28 ∨ i = 29 ∨ i = 30 ∨ i = 31 ∨ i = 32 ∨ i = 33 ∨ i = 34 ∨ i = 35 ∨ i = 36 ∨ i = 37) with rfl | rfl | rfl | rfl | rfl | rfl | rfl | rfl | rfl | rfl | rfl | rfl | rfl | rfl | rfl | rfl | rfl | rfl | rfl | rfl | rfl | rfl | rfl | rfl | rfl | rfl | rfl | rfl | rfl | rfl | rfl | rfl | rfl | rfl | rfl | rfl | rfl | rfl
    · simp only [List.getElem?_toArray, List.getElem?_cons_zero, Option.some.injEq] at ho
      subst ho
      have O'2 := F41; obtain ⟨_, _, _, _⟩ := O'2
      refine wpOp_step rfl (fun K hK => ?_)
      go_simp
      refine hK _ _ ?_
      exact ⟨_, _, _, _, _, _, _, _, _, _, _, _, _, _, _, _, _, _, _, _, _, _, _, _, _, _, _, _, _, _, _, _, _, _, _, _, _, _, rfl, fun _ => rfl, fun h => F1 (ls (by decide) h), fun h => F2 (ls (by decide) h), fun h => F3 (ls (by decide) h), fun h => F4 (ls (by decide) h), fun h => F5 (ls (by decide) h), fun h => F6 (ls (by decide) h), fun h => F7 (ls (by decide) h), fun h => F8 (ls (by decide) h), fun h => F9 (ls (by decide) h), fun h => F10 (ls (by decide) h), fun h => F11 (ls (by decide) h), fun h => F12 (ls (by decide) h), fun h => F13 (ls (by decide) h), fun h => F14 (ls (by decide) h), fun h => F15 (ls (by decide) h), fun h => F16 (ls (by decide) h), fun h => F17 (ls (by decide) h), fun h => F18 (ls (by decide) h), fun h => F19 (ls (by decide) h), fun h => F20 (ls (by decide) h), fun h => F21 (ls (by decide) h), fun h => F22 (ls (by decide) h), fun h => F23 (ls (by decide) h), fun h => F24 (ls (by decide) h), fun h => F25 (ls (by decide) h), fun h => F26 (ls (by decide) h), fun h => F27 (ls (by decide) h), fun h => F28 (ls (by decide) h), fun h => F29 (ls (by decide) h), fun h => F30 (ls (by decide) h), fun h => F31 (ls (by decide) h), fun h => F32 (ls (by decide) h), fun h => F33 (ls (by decide) h), fun h => F34 (ls (by decide) h), fun h => F35 (ls (by decide) h), fun h => F36 (ls (by decide) h), fun h => F37 (ls (by decide) h), F38, F39, F40, F41, F42, F43, F44⟩
    · simp only [List.getElem?_toArray, List.getElem?_cons_zero, List.getElem?_cons_succ, Option.some.injEq] at ho
      subst ho
      have O'3 := F42; obtain ⟨_, _, _, _⟩ := O'3
      refine wpOp_step rfl (fun K hK => ?_)
      go_simp
      refine hK _ _ ?_
      exact ⟨_, _, _, _, _, _, _, _, _, _, _, _, _, _, _, _, _, _, _, _, _, _, _, _, _, _, _, _, _, _, _, _, _, _, _, _, _, _, rfl, fun h => F0 (ls (by decide) h), fun _ => rfl, fun h => F2 (ls (by decide) h), fun h => F3 (ls (by decide) h), fun h => F4 (ls (by decide) h), fun h => F5 (ls (by decide) h), fun h => F6 (ls (by decide) h), fun h => F7 (ls (by decide) h), fun h => F8 (ls (by decide) h), fun h => F9 (ls (by decide) h), fun h => F10 (ls (by decide) h), fun h => F11 (ls (by decide) h), fun h => F12 (ls (by decide) h), fun h => F13 (ls (by decide) h), fun h => F14 (ls (by decide) h), fun h => F15 (ls (by decide) h), fun h => F16 (ls (by decide) h), fun h => F17 (ls (by decide) h), fun h => F18 (ls (by decide) h), fun h => F19 (ls (by decide) h), fun h => F20 (ls (by decide) h), fun h => F21 (ls (by decide) h), fun h => F22 (ls (by decide) h), fun h => F23 (ls (by decide) h), fun h => F24 (ls (by decide) h), fun h => F25 (ls (by decide) h), fun h => F26 (ls (by decide) h), fun h => F27 (ls (by decide) h), fun h => F28 (ls (by decide) h), fun h => F29 (ls (by decide) h), fun h => F30 (ls (by decide) h), fun h => F31 (ls (by decide) h), fun h => F32 (ls (by decide) h), fun h => F33 (ls (by decide) h), fun h => F34 (ls (by decide) h), fun h => F35 (ls (by decide) h), fun h => F36 (ls (by decide) h), fun h => F37 (ls (by decide) h), F38, F39, F40, F41, F42, F43, F44⟩
    · simp only [List.getElem?_toArray, List.getElem?_cons_zero, List.getElem?_cons_succ, Option.some.injEq] at ho
      subst ho
      obtain rfl := F0 (hd ⟨0, .data⟩ (by simp) rfl)
      obtain rfl := F1 (hd ⟨1, .data⟩ (by simp) rfl)
      refine wpOp_step rfl (fun K hK => ?_)
      go_simp
      refine hK _ _ ?_
      exact ⟨_, _, _, _, _, _, _, _, _, _, _, _, _, _, _, _, _, _, _, _, _, _, _, _, _, _, _, _, _, _, _, _, _, _, _, _, _, _, rfl, fun h => F0 (ls (by decide) h), fun h => F1 (ls (by decide) h), fun _ => rfl, fun h => F3 (ls (by decide) h), fun h => F4 (ls (by decide) h), fun h => F5 (ls (by decide) h), fun h => F6 (ls (by decide) h), fun h => F7 (ls (by decide) h), fun h => F8 (ls (by decide) h), fun h => F9 (ls (by decide) h), fun h => F10 (ls (by decide) h), fun h => F11 (ls (by decide) h), fun h => F12 (ls (by decide) h), fun h => F13 (ls (by decide) h), fun h => F14 (ls (by decide) h), fun h => F15 (ls (by decide) h), fun h => F16 (ls (by decide) h), fun h => F17 (ls (by decide) h), fun h => F18 (ls (by decide) h), fun h => F19 (ls (by decide) h), fun h => F20 (ls (by decide) h), fun h => F21 (ls (by decide) h), fun h => F22 (ls (by decide) h), fun h => F23 (ls (by decide) h), fun h => F24 (ls (by decide) h), fun h => F25 (ls (by decide) h), fun h => F26 (ls (by decide) h), fun h => F27 (ls (by decide) h), fun h => F28 (ls (by decide) h), fun h => F29 (ls (by decide) h), fun h => F30 (ls (by decide) h), fun h => F31 (ls (by decide) h), fun h => F32 (ls (by decide) h), fun h => F33 (ls (by decide) h), fun h => F34 (ls (by decide) h), fun h => F35 (ls (by decide) h), fun h => F36 (ls (by decide) h), fun h => F37 (ls (by decide) h), F38, F39, F40, F41, F42, F43, F44⟩
    · simp only [List.getElem?_toArray, List.getElem?_cons_zero, List.getElem?_cons_succ, Option.some.injEq] at ho
      subst ho
      obtain rfl := F2 (hd ⟨2, .data⟩ (by simp) rfl)
      refine wpOp_step rfl (fun K hK => ?_)
      go_simp
      refine hK _ _ ?_
      exact ⟨_, _, _, _, _, _, _, _, _, _, _, _, _, _, _, _, _, _, _, _, _, _, _, _, _, _, _, _, _, _, _, _, _, _, _, _, _, _, rfl, fun h => F0 (ls (by decide) h), fun h => F1 (ls (by decide) h), fun h => F2 (ls (by decide) h), fun _ => rfl, fun h => F4 (ls (by decide) h), fun h => F5 (ls (by decide) h), fun h => F6 (ls (by decide) h), fun h => F7 (ls (by decide) h), fun h => F8 (ls (by decide) h), fun h => F9 (ls (by decide) h), fun h => F10 (ls (by decide) h), fun h => F11 (ls (by decide) h), fun h => F12 (ls (by decide) h), fun h => F13 (ls (by decide) h), fun h => F14 (ls (by decide) h), fun h => F15 (ls (by decide) h), fun h => F16 (ls (by decide) h), fun h => F17 (ls (by decide) h), fun h => F18 (ls (by decide) h), fun h => F19 (ls (by decide) h), fun h => F20 (ls (by decide) h), fun h => F21 (ls (by decide) h), fun h => F22 (ls (by decide) h), fun h => F23 (ls (by decide) h), fun h => F24 (ls (by decide) h), fun h => F25 (ls (by decide) h), fun h => F26 (ls (by decide) h), fun h => F27 (ls (by decide) h), fun h => F28 (ls (by decide) h), fun h => F29 (ls (by decide) h), fun h => F30 (ls (by decide) h), fun h => F31 (ls (by decide) h), fun h => F32 (ls (by decide) h), fun h => F33 (ls (by decide) h), fun h => F34 (ls (by decide) h), fun h => F35 (ls (by decide) h), fun h => F36 (ls (by decide) h), fun h => F37 (ls (by decide) h), F38, F39, F40, F41, F42, F43, F44⟩
    · simp only [List.getElem?_toArray, List.getElem?_cons_zero, List.getElem?_cons_succ, Option.some.injEq] at ho
      subst ho
      obtain rfl := F3 (hd ⟨3, .guard⟩ (by simp) rfl)
      refine wpOp_step rfl (fun K hK => ?_)
      go_simp
      refine hK _ _ ?_
      exact ⟨_, _, _, _, _, _, _, _, _, _, _, _, _, _, _, _, _, _, _, _, _, _, _, _, _, _, _, _, _, _, _, _, _, _, _, _, _, _, rfl, fun h => F0 (ls (by decide) h), fun h => F1 (ls (by decide) h), fun h => F2 (ls (by decide) h), fun h => F3 (ls (by decide) h), fun _ => rfl, fun h => F5 (ls (by decide) h), fun h => F6 (ls (by decide) h), fun h => F7 (ls (by decide) h), fun h => F8 (ls (by decide) h), fun h => F9 (ls (by decide) h), fun h => F10 (ls (by decide) h), fun h => F11 (ls (by decide) h), fun h => F12 (ls (by decide) h), fun h => F13 (ls (by decide) h), fun h => F14 (ls (by decide) h), fun h => F15 (ls (by decide) h), fun h => F16 (ls (by decide) h), fun h => F17 (ls (by decide) h), fun h => F18 (ls (by decide) h), fun h => F19 (ls (by decide) h), fun h => F20 (ls (by decide) h), fun h => F21 (ls (by decide) h), fun h => F22 (ls (by decide) h), fun h => F23 (ls (by decide) h), fun h => F24 (ls (by decide) h), fun h => F25 (ls (by decide) h), fun h => F26 (ls (by decide) h), fun h => F27 (ls (by decide) h), fun h => F28 (ls (by decide) h), fun h => F29 (ls (by decide) h), fun h => F30 (ls (by decide) h), fun h => F31 (ls (by decide) h), fun h => F32 (ls (by decide) h), fun h => F33 (ls (by decide) h), fun h => F34 (ls (by decide) h), fun h => F35 (ls (by decide) h), fun h => F36 (ls (by decide) h), fun h => F37 (ls (by decide) h), F38, F39, F40, F41, F42, F43, F44⟩
    · simp only [List.getElem?_toArray, List.getElem?_cons_zero, List.getElem?_cons_succ, Option.some.injEq] at ho
      subst ho
      obtain rfl := F3 (hd ⟨3, .guard⟩ (by simp) rfl)
      refine wpOp_step rfl (fun K hK => ?_)
      go_simp
      refine hK _ _ ?_
      exact ⟨_, _, _, _, _, _, _, _, _, _, _, _, _, _, _, _, _, _, _, _, _, _, _, _, _, _, _, _, _, _, _, _, _, _, _, _, _, _, rfl, fun h => F0 (ls (by decide) h), fun h => F1 (ls (by decide) h), fun h => F2 (ls (by decide) h), fun h => F3 (ls (by decide) h), fun h => F4 (ls (by decide) h), fun _ => rfl, fun h => F6 (ls (by decide) h), fun h => F7 (ls (by decide) h), fun h => F8 (ls (by decide) h), fun h => F9 (ls (by decide) h), fun h => F10 (ls (by decide) h), fun h => F11 (ls (by decide) h), fun h => F12 (ls (by decide) h), fun h => F13 (ls (by decide) h), fun h => F14 (ls (by decide) h), fun h => F15 (ls (by decide) h), fun h => F16 (ls (by decide) h), fun h => F17 (ls (by decide) h), fun h => F18 (ls (by decide) h), fun h => F19 (ls (by decide) h), fun h => F20 (ls (by decide) h), fun h => F21 (ls (by decide) h), fun h => F22 (ls (by decide) h), fun h => F23 (ls (by decide) h), fun h => F24 (ls (by decide) h), fun h => F25 (ls (by decide) h), fun h => F26 (ls (by decide) h), fun h => F27 (ls (by decide) h), fun h => F28 (ls (by decide) h), fun h => F29 (ls (by decide) h), fun h => F30 (ls (by decide) h), fun h => F31 (ls (by decide) h), fun h => F32 (ls (by decide) h), fun h => F33 (ls (by decide) h), fun h => F34 (ls (by decide) h), fun h => F35 (ls (by decide) h), fun h => F36 (ls (by decide) h), fun h => F37 (ls (by decide) h), F38, F39, F40, F41, F42, F43, F44⟩
    · simp only [List.getElem?_toArray, List.getElem?_cons_zero, List.getElem?_cons_succ, Option.some.injEq] at ho
      subst ho
      obtain rfl := F4 (hd ⟨4, .data⟩ (by simp) rfl)
      obtain rfl := F5 (hd ⟨5, .data⟩ (by simp) rfl)
      obtain rfl := F3 (hd ⟨3, .guard⟩ (by simp) rfl)
      refine wpOp_step rfl (fun K hK => ?_)
      go_simp
      refine hK _ _ ?_
      exact ⟨_, _, _, _, _, _, _, _, _, _, _, _, _, _, _, _, _, _, _, _, _, _, _, _, _, _, _, _, _, _, _, _, _, _, _, _, _, _, rfl, fun h => F0 (ls (by decide) h), fun h => F1 (ls (by decide) h), fun h => F2 (ls (by decide) h), fun h => F3 (ls (by decide) h), fun h => F4 (ls (by decide) h), fun h => F5 (ls (by decide) h), fun _ => rfl, fun h => F7 (ls (by decide) h), fun h => F8 (ls (by decide) h), fun h => F9 (ls (by decide) h), fun h => F10 (ls (by decide) h), fun h => F11 (ls (by decide) h), fun h => F12 (ls (by decide) h), fun h => F13 (ls (by decide) h), fun h => F14 (ls (by decide) h), fun h => F15 (ls (by decide) h), fun h => F16 (ls (by decide) h), fun h => F17 (ls (by decide) h), fun h => F18 (ls (by decide) h), fun h => F19 (ls (by decide) h), fun h => F20 (ls (by decide) h), fun h => F21 (ls (by decide) h), fun h => F22 (ls (by decide) h), fun h => F23 (ls (by decide) h), fun h => F24 (ls (by decide) h), fun h => F25 (ls (by decide) h), fun h => F26 (ls (by decide) h), fun h => F27 (ls (by decide) h), fun h => F28 (ls (by decide) h), fun h => F29 (ls (by decide) h), fun h => F30 (ls (by decide) h), fun h => F31 (ls (by decide) h), fun h => F32 (ls (by decide) h), fun h => F33 (ls (by decide) h), fun h => F34 (ls (by decide) h), fun h => F35 (ls (by decide) h), fun h => F36 (ls (by decide) h), fun h => F37 (ls (by decide) h), F38, F39, F40, F41, F42, F43, F44⟩
    · simp only [List.getElem?_toArray, List.getElem?_cons_zero, List.getElem?_cons_succ, Option.some.injEq] at ho
      subst ho
      obtain rfl := F3 (hd ⟨3, .data⟩ (by simp) rfl)
      obtain rfl := F6 (hd ⟨6, .data⟩ (by simp) rfl)
      refine wpOp_step rfl (fun K hK => ?_)
      go_simp
      refine hK _ _ ?_
      exact ⟨_, _, _, _, _, _, _, _, _, _, _, _, _, _, _, _, _, _, _, _, _, _, _, _, _, _, _, _, _, _, _, _, _, _, _, _, _, _, rfl, fun h => F0 (ls (by decide) h), fun h => F1 (ls (by decide) h), fun h => F2 (ls (by decide) h), fun h => F3 (ls (by decide) h), fun h => F4 (ls (by decide) h), fun h => F5 (ls (by decide) h), fun h => F6 (ls (by decide) h), fun _ => rfl, fun h => F8 (ls (by decide) h), fun h => F9 (ls (by decide) h), fun h => F10 (ls (by decide) h), fun h => F11 (ls (by decide) h), fun h => F12 (ls (by decide) h), fun h => F13 (ls (by decide) h), fun h => F14 (ls (by decide) h), fun h => F15 (ls (by decide) h), fun h => F16 (ls (by decide) h), fun h => F17 (ls (by decide) h), fun h => F18 (ls (by decide) h), fun h => F19 (ls (by decide) h), fun h => F20 (ls (by decide) h), fun h => F21 (ls (by decide) h), fun h => F22 (ls (by decide) h), fun h => F23 (ls (by decide) h), fun h => F24 (ls (by decide) h), fun h => F25 (ls (by decide) h), fun h => F26 (ls (by decide) h), fun h => F27 (ls (by decide) h), fun h => F28 (ls (by decide) h), fun h => F29 (ls (by decide) h), fun h => F30 (ls (by decide) h), fun h => F31 (ls (by decide) h), fun h => F32 (ls (by decide) h), fun h => F33 (ls (by decide) h), fun h => F34 (ls (by decide) h), fun h => F35 (ls (by decide) h), fun h => F36 (ls (by decide) h), fun h => F37 (ls (by decide) h), F38, F39, F40, F41, F42, F43, F44⟩
    · simp only [List.getElem?_toArray, List.getElem?_cons_zero, List.getElem?_cons_succ, Option.some.injEq] at ho
      subst ho
      obtain rfl := F7 (hd ⟨7, .data⟩ (by simp) rfl)
      refine wpOp_step rfl (fun K hK => ?_)
      go_simp
      refine hK _ _ ?_
      exact ⟨_, _, _, _, _, _, _, _, _, _, _, _, _, _, _, _, _, _, _, _, _, _, _, _, _, _, _, _, _, _, _, _, _, _, _, _, _, _, rfl, fun h => F0 (ls (by decide) h), fun h => F1 (ls (by decide) h), fun h => F2 (ls (by decide) h), fun h => F3 (ls (by decide) h), fun h => F4 (ls (by decide) h), fun h => F5 (ls (by decide) h), fun h => F6 (ls (by decide) h), fun h => F7 (ls (by decide) h), fun _ => rfl, fun h => F9 (ls (by decide) h), fun h => F10 (ls (by decide) h), fun h => F11 (ls (by decide) h), fun h => F12 (ls (by decide) h), fun h => F13 (ls (by decide) h), fun h => F14 (ls (by decide) h), fun h => F15 (ls (by decide) h), fun h => F16 (ls (by decide) h), fun h => F17 (ls (by decide) h), fun h => F18 (ls (by decide) h), fun h => F19 (ls (by decide) h), fun h => F20 (ls (by decide) h), fun h => F21 (ls (by decide) h), fun h => F22 (ls (by decide) h), fun h => F23 (ls (by decide) h), fun h => F24 (ls (by decide) h), fun h => F25 (ls (by decide) h), fun h => F26 (ls (by decide) h), fun h => F27 (ls (by decide) h), fun h => F28 (ls (by decide) h), fun h => F29 (ls (by decide) h), fun h => F30 (ls (by decide) h), fun h => F31 (ls (by decide) h), fun h => F32 (ls (by decide) h), fun h => F33 (ls (by decide) h), fun h => F34 (ls (by decide) h), fun h => F35 (ls (by decide) h), fun h => F36 (ls (by decide) h), fun h => F37 (ls (by decide) h), F38, F39, F40, F41, F42, F43, F44⟩
    · simp only [List.getElem?_toArray, List.getElem?_cons_zero, List.getElem?_cons_succ, Option.some.injEq] at ho
      subst ho
      obtain rfl := F8 (hd ⟨8, .guard⟩ (by simp) rfl)
      have O'4 := F43; obtain ⟨_, _, _, _⟩ := O'4
      refine wpOp_step rfl (fun K hK => ?_)
      go_simp
      refine hK _ _ ?_
      exact ⟨_, _, _, _, _, _, _, _, _, _, _, _, _, _, _, _, _, _, _, _, _, _, _, _, _, _, _, _, _, _, _, _, _, _, _, _, _, _, rfl, fun h => F0 (ls (by decide) h), fun h => F1 (ls (by decide) h), fun h => F2 (ls (by decide) h), fun h => F3 (ls (by decide) h), fun h => F4 (ls (by decide) h), fun h => F5 (ls (by decide) h), fun h => F6 (ls (by decide) h), fun h => F7 (ls (by decide) h), fun h => F8 (ls (by decide) h), fun _ => rfl, fun h => F10 (ls (by decide) h), fun h => F11 (ls (by decide) h), fun h => F12 (ls (by decide) h), fun h => F13 (ls (by decide) h), fun h => F14 (ls (by decide) h), fun h => F15 (ls (by decide) h), fun h => F16 (ls (by decide) h), fun h => F17 (ls (by decide) h), fun h => F18 (ls (by decide) h), fun h => F19 (ls (by decide) h), fun h => F20 (ls (by decide) h), fun h => F21 (ls (by decide) h), fun h => F22 (ls (by decide) h), fun h => F23 (ls (by decide) h), fun h => F24 (ls (by decide) h), fun h => F25 (ls (by decide) h), fun h => F26 (ls (by decide) h), fun h => F27 (ls (by decide) h), fun h => F28 (ls (by decide) h), fun h => F29 (ls (by decide) h), fun h => F30 (ls (by decide) h), fun h => F31 (ls (by decide) h), fun h => F32 (ls (by decide) h), fun h => F33 (ls (by decide) h), fun h => F34 (ls (by decide) h), fun h => F35 (ls (by decide) h), fun h => F36 (ls (by decide) h), fun h => F37 (ls (by decide) h), F38, F39, F40, F41, F42, F43, F44⟩
    · simp only [List.getElem?_toArray, List.getElem?_cons_zero, List.getElem?_cons_succ, Option.some.injEq] at ho
      subst ho
      obtain rfl := F8 (hd ⟨8, .guard⟩ (by simp) rfl)
      have O'5 := F44; obtain ⟨_, _, _, _⟩ := O'5
      refine wpOp_step rfl (fun K hK => ?_)
      go_simp
      refine hK _ _ ?_
      exact ⟨_, _, _, _, _, _, _, _, _, _, _, _, _, _, _, _, _, _, _, _, _, _, _, _, _, _, _, _, _, _, _, _, _, _, _, _, _, _, rfl, fun h => F0 (ls (by decide) h), fun h => F1 (ls (by decide) h), fun h => F2 (ls (by decide) h), fun h => F3 (ls (by decide) h), fun h => F4 (ls (by decide) h), fun h => F5 (ls (by decide) h), fun h => F6 (ls (by decide) h), fun h => F7 (ls (by decide) h), fun h => F8 (ls (by decide) h), fun h => F9 (ls (by decide) h), fun _ => rfl, fun h => F11 (ls (by decide) h), fun h => F12 (ls (by decide) h), fun h => F13 (ls (by decide) h), fun h => F14 (ls (by decide) h), fun h => F15 (ls (by decide) h), fun h => F16 (ls (by decide) h), fun h => F17 (ls (by decide) h), fun h => F18 (ls (by decide) h), fun h => F19 (ls (by decide) h), fun h => F20 (ls (by decide) h), fun h => F21 (ls (by decide) h), fun h => F22 (ls (by decide) h), fun h => F23 (ls (by decide) h), fun h => F24 (ls (by decide) h), fun h => F25 (ls (by decide) h), fun h => F26 (ls (by decide) h), fun h => F27 (ls (by decide) h), fun h => F28 (ls (by decide) h), fun h => F29 (ls (by decide) h), fun h => F30 (ls (by decide) h), fun h => F31 (ls (by decide) h), fun h => F32 (ls (by decide) h), fun h => F33 (ls (by decide) h), fun h => F34 (ls (by decide) h), fun h => F35 (ls (by decide) h), fun h => F36 (ls (by decide) h), fun h => F37 (ls (by decide) h), F38, F39, F40, F41, F42, F43, F44⟩
    · simp only [List.getElem?_toArray, List.getElem?_cons_zero, List.getElem?_cons_succ, Option.some.injEq] at ho
      subst ho
      obtain rfl := F9 (hd ⟨9, .data⟩ (by simp) rfl)
      obtain rfl := F10 (hd ⟨10, .data⟩ (by simp) rfl)
      obtain rfl := F8 (hd ⟨8, .guard⟩ (by simp) rfl)
      refine wpOp_step rfl (fun K hK => ?_)
      go_simp
      refine hK _ _ ?_
      exact ⟨_, _, _, _, _, _, _, _, _, _, _, _, _, _, _, _, _, _, _, _, _, _, _, _, _, _, _, _, _, _, _, _, _, _, _, _, _, _, rfl, fun h => F0 (ls (by decide) h), fun h => F1 (ls (by decide) h), fun h => F2 (ls (by decide) h), fun h => F3 (ls (by decide) h), fun h => F4 (ls (by decide) h), fun h => F5 (ls (by decide) h), fun h => F6 (ls (by decide) h), fun h => F7 (ls (by decide) h), fun h => F8 (ls (by decide) h), fun h => F9 (ls (by decide) h), fun h => F10 (ls (by decide) h), fun _ => rfl, fun h => F12 (ls (by decide) h), fun h => F13 (ls (by decide) h), fun h => F14 (ls (by decide) h), fun h => F15 (ls (by decide) h), fun h => F16 (ls (by decide) h), fun h => F17 (ls (by decide) h), fun h => F18 (ls (by decide) h), fun h => F19 (ls (by decide) h), fun h => F20 (ls (by decide) h), fun h => F21 (ls (by decide) h), fun h => F22 (ls (by decide) h), fun h => F23 (ls (by decide) h), fun h => F24 (ls (by decide) h), fun h => F25 (ls (by decide) h), fun h => F26 (ls (by decide) h), fun h => F27 (ls (by decide) h), fun h => F28 (ls (by decide) h), fun h => F29 (ls (by decide) h), fun h => F30 (ls (by decide) h), fun h => F31 (ls (by decide) h), fun h => F32 (ls (by decide) h), fun h => F33 (ls (by decide) h), fun h => F34 (ls (by decide) h), fun h => F35 (ls (by decide) h), fun h => F36 (ls (by decide) h), fun h => F37 (ls (by decide) h), F38, F39, F40, F41, F42, F43, F44⟩
    · simp only [List.getElem?_toArray, List.getElem?_cons_zero, List.getElem?_cons_succ, Option.some.injEq] at ho
      subst ho
      obtain rfl := F8 (hd ⟨8, .data⟩ (by simp) rfl)
      obtain rfl := F11 (hd ⟨11, .data⟩ (by simp) rfl)
      refine wpOp_step rfl (fun K hK => ?_)
      go_simp
      refine hK _ _ ?_
      exact ⟨_, _, _, _, _, _, _, _, _, _, _, _, _, _, _, _, _, _, _, _, _, _, _, _, _, _, _, _, _, _, _, _, _, _, _, _, _, _, rfl, fun h => F0 (ls (by decide) h), fun h => F1 (ls (by decide) h), fun h => F2 (ls (by decide) h), fun h => F3 (ls (by decide) h), fun h => F4 (ls (by decide) h), fun h => F5 (ls (by decide) h), fun h => F6 (ls (by decide) h), fun h => F7 (ls (by decide) h), fun h => F8 (ls (by decide) h), fun h => F9 (ls (by decide) h), fun h => F10 (ls (by decide) h), fun h => F11 (ls (by decide) h), fun _ => rfl, fun h => F13 (ls (by decide) h), fun h => F14 (ls (by decide) h), fun h => F15 (ls (by decide) h), fun h => F16 (ls (by decide) h), fun h => F17 (ls (by decide) h), fun h => F18 (ls (by decide) h), fun h => F19 (ls (by decide) h), fun h => F20 (ls (by decide) h), fun h => F21 (ls (by decide) h), fun h => F22 (ls (by decide) h), fun h => F23 (ls (by decide) h), fun h => F24 (ls (by decide) h), fun h => F25 (ls (by decide) h), fun h => F26 (ls (by decide) h), fun h => F27 (ls (by decide) h), fun h => F28 (ls (by decide) h), fun h => F29 (ls (by decide) h), fun h => F30 (ls (by decide) h), fun h => F31 (ls (by decide) h), fun h => F32 (ls (by decide) h), fun h => F33 (ls (by decide) h), fun h => F34 (ls (by decide) h), fun h => F35 (ls (by decide) h), fun h => F36 (ls (by decide) h), fun h => F37 (ls (by decide) h), F38, F39, F40, F41, F42, F43, F44⟩
    · simp only [List.getElem?_toArray, List.getElem?_cons_zero, List.getElem?_cons_succ, Option.some.injEq] at ho
      subst ho
      obtain rfl := F12 (hd ⟨12, .data⟩ (by simp) rfl)
      refine wpOp_step rfl (fun K hK => ?_)
      go_simp
      refine hK _ _ ?_
      exact ⟨_, _, _, _, _, _, _, _, _, _, _, _, _, _, _, _, _, _, _, _, _, _, _, _, _, _, _, _, _, _, _, _, _, _, _, _, _, _, rfl, fun h => F0 (ls (by decide) h), fun h => F1 (ls (by decide) h), fun h => F2 (ls (by decide) h), fun h => F3 (ls (by decide) h), fun h => F4 (ls (by decide) h), fun h => F5 (ls (by decide) h), fun h => F6 (ls (by decide) h), fun h => F7 (ls (by decide) h), fun h => F8 (ls (by decide) h), fun h => F9 (ls (by decide) h), fun h => F10 (ls (by decide) h), fun h => F11 (ls (by decide) h), fun h => F12 (ls (by decide) h), fun _ => rfl, fun h => F14 (ls (by decide) h), fun h => F15 (ls (by decide) h), fun h => F16 (ls (by decide) h), fun h => F17 (ls (by decide) h), fun h => F18 (ls (by decide) h), fun h => F19 (ls (by decide) h), fun h => F20 (ls (by decide) h), fun h => F21 (ls (by decide) h), fun h => F22 (ls (by decide) h), fun h => F23 (ls (by decide) h), fun h => F24 (ls (by decide) h), fun h => F25 (ls (by decide) h), fun h => F26 (ls (by decide) h), fun h => F27 (ls (by decide) h), fun h => F28 (ls (by decide) h), fun h => F29 (ls (by decide) h), fun h => F30 (ls (by decide) h), fun h => F31 (ls (by decide) h), fun h => F32 (ls (by decide) h), fun h => F33 (ls (by decide) h), fun h => F34 (ls (by decide) h), fun h => F35 (ls (by decide) h), fun h => F36 (ls (by decide) h), fun h => F37 (ls (by decide) h), F38, F39, F40, F41, F42, F43, F44⟩
    · simp only [List.getElem?_toArray, List.getElem?_cons_zero, List.getElem?_cons_succ, Option.some.injEq] at ho
      subst ho
      obtain rfl := F13 (hd ⟨13, .guard⟩ (by simp) rfl)
      refine wpOp_step rfl (fun K hK => ?_)
      go_simp
      refine hK _ _ ?_
      exact ⟨_, _, _, _, _, _, _, _, _, _, _, _, _, _, _, _, _, _, _, _, _, _, _, _, _, _, _, _, _, _, _, _, _, _, _, _, _, _, rfl, fun h => F0 (ls (by decide) h), fun h => F1 (ls (by decide) h), fun h => F2 (ls (by decide) h), fun h => F3 (ls (by decide) h), fun h => F4 (ls (by decide) h), fun h => F5 (ls (by decide) h), fun h => F6 (ls (by decide) h), fun h => F7 (ls (by decide) h), fun h => F8 (ls (by decide) h), fun h => F9 (ls (by decide) h), fun h => F10 (ls (by decide) h), fun h => F11 (ls (by decide) h), fun h => F12 (ls (by decide) h), fun h => F13 (ls (by decide) h), fun _ => rfl, fun h => F15 (ls (by decide) h), fun h => F16 (ls (by decide) h), fun h => F17 (ls (by decide) h), fun h => F18 (ls (by decide) h), fun h => F19 (ls (by decide) h), fun h => F20 (ls (by decide) h), fun h => F21 (ls (by decide) h), fun h => F22 (ls (by decide) h), fun h => F23 (ls (by decide) h), fun h => F24 (ls (by decide) h), fun h => F25 (ls (by decide) h), fun h => F26 (ls (by decide) h), fun h => F27 (ls (by decide) h), fun h => F28 (ls (by decide) h), fun h => F29 (ls (by decide) h), fun h => F30 (ls (by decide) h), fun h => F31 (ls (by decide) h), fun h => F32 (ls (by decide) h), fun h => F33 (ls (by decide) h), fun h => F34 (ls (by decide) h), fun h => F35 (ls (by decide) h), fun h => F36 (ls (by decide) h), fun h => F37 (ls (by decide) h), F38, F39, F40, F41, F42, F43, F44⟩
    · simp only [List.getElem?_toArray, List.getElem?_cons_zero, List.getElem?_cons_succ, Option.some.injEq] at ho
      subst ho
      obtain rfl := F13 (hd ⟨13, .guard⟩ (by simp) rfl)
      refine wpOp_step rfl (fun K hK => ?_)
      go_simp
      refine hK _ _ ?_
      exact ⟨_, _, _, _, _, _, _, _, _, _, _, _, _, _, _, _, _, _, _, _, _, _, _, _, _, _, _, _, _, _, _, _, _, _, _, _, _, _, rfl, fun h => F0 (ls (by decide) h), fun h => F1 (ls (by decide) h), fun h => F2 (ls (by decide) h), fun h => F3 (ls (by decide) h), fun h => F4 (ls (by decide) h), fun h => F5 (ls (by decide) h), fun h => F6 (ls (by decide) h), fun h => F7 (ls (by decide) h), fun h => F8 (ls (by decide) h), fun h => F9 (ls (by decide) h), fun h => F10 (ls (by decide) h), fun h => F11 (ls (by decide) h), fun h => F12 (ls (by decide) h), fun h => F13 (ls (by decide) h), fun h => F14 (ls (by decide) h), fun _ => rfl, fun h => F16 (ls (by decide) h), fun h => F17 (ls (by decide) h), fun h => F18 (ls (by decide) h), fun h => F19 (ls (by decide) h), fun h => F20 (ls (by decide) h), fun h => F21 (ls (by decide) h), fun h => F22 (ls (by decide) h), fun h => F23 (ls (by decide) h), fun h => F24 (ls (by decide) h), fun h => F25 (ls (by decide) h), fun h => F26 (ls (by decide) h), fun h => F27 (ls (by decide) h), fun h => F28 (ls (by decide) h), fun h => F29 (ls (by decide) h), fun h => F30 (ls (by decide) h), fun h => F31 (ls (by decide) h), fun h => F32 (ls (by decide) h), fun h => F33 (ls (by decide) h), fun h => F34 (ls (by decide) h), fun h => F35 (ls (by decide) h), fun h => F36 (ls (by decide) h), fun h => F37 (ls (by decide) h), F38, F39, F40, F41, F42, F43, F44⟩
    · simp only [List.getElem?_toArray, List.getElem?_cons_zero, List.getElem?_cons_succ, Option.some.injEq] at ho
      subst ho
      obtain rfl := F14 (hd ⟨14, .data⟩ (by simp) rfl)
      obtain rfl := F15 (hd ⟨15, .data⟩ (by simp) rfl)
      obtain rfl := F13 (hd ⟨13, .guard⟩ (by simp) rfl)
      refine wpOp_step rfl (fun K hK => ?_)
      go_simp
      refine hK _ _ ?_
      exact ⟨_, _, _, _, _, _, _, _, _, _, _, _, _, _, _, _, _, _, _, _, _, _, _, _, _, _, _, _, _, _, _, _, _, _, _, _, _, _, rfl, fun h => F0 (ls (by decide) h), fun h => F1 (ls (by decide) h), fun h => F2 (ls (by decide) h), fun h => F3 (ls (by decide) h), fun h => F4 (ls (by decide) h), fun h => F5 (ls (by decide) h), fun h => F6 (ls (by decide) h), fun h => F7 (ls (by decide) h), fun h => F8 (ls (by decide) h), fun h => F9 (ls (by decide) h), fun h => F10 (ls (by decide) h), fun h => F11 (ls (by decide) h), fun h => F12 (ls (by decide) h), fun h => F13 (ls (by decide) h), fun h => F14 (ls (by decide) h), fun h => F15 (ls (by decide) h), fun _ => rfl, fun h => F17 (ls (by decide) h), fun h => F18 (ls (by decide) h), fun h => F19 (ls (by decide) h), fun h => F20 (ls (by decide) h), fun h => F21 (ls (by decide) h), fun h => F22 (ls (by decide) h), fun h => F23 (ls (by decide) h), fun h => F24 (ls (by decide) h), fun h => F25 (ls (by decide) h), fun h => F26 (ls (by decide) h), fun h => F27 (ls (by decide) h), fun h => F28 (ls (by decide) h), fun h => F29 (ls (by decide) h), fun h => F30 (ls (by decide) h), fun h => F31 (ls (by decide) h), fun h => F32 (ls (by decide) h), fun h => F33 (ls (by decide) h), fun h => F34 (ls (by decide) h), fun h => F35 (ls (by decide) h), fun h => F36 (ls (by decide) h), fun h => F37 (ls (by decide) h), F38, F39, F40, F41, F42, F43, F44⟩
    · simp only [List.getElem?_toArray, List.getElem?_cons_zero, List.getElem?_cons_succ, Option.some.injEq] at ho
      subst ho
      obtain rfl := F13 (hd ⟨13, .data⟩ (by simp) rfl)
      obtain rfl := F16 (hd ⟨16, .data⟩ (by simp) rfl)
      refine wpOp_step rfl (fun K hK => ?_)
      go_simp
      refine hK _ _ ?_
      exact ⟨_, _, _, _, _, _, _, _, _, _, _, _, _, _, _, _, _, _, _, _, _, _, _, _, _, _, _, _, _, _, _, _, _, _, _, _, _, _, rfl, fun h => F0 (ls (by decide) h), fun h => F1 (ls (by decide) h), fun h => F2 (ls (by decide) h), fun h => F3 (ls (by decide) h), fun h => F4 (ls (by decide) h), fun h => F5 (ls (by decide) h), fun h => F6 (ls (by decide) h), fun h => F7 (ls (by decide) h), fun h => F8 (ls (by decide) h), fun h => F9 (ls (by decide) h), fun h => F10 (ls (by decide) h), fun h => F11 (ls (by decide) h), fun h => F12 (ls (by decide) h), fun h => F13 (ls (by decide) h), fun h => F14 (ls (by decide) h), fun h => F15 (ls (by decide) h), fun h => F16 (ls (by decide) h), fun _ => rfl, fun h => F18 (ls (by decide) h), fun h => F19 (ls (by decide) h), fun h => F20 (ls (by decide) h), fun h => F21 (ls (by decide) h), fun h => F22 (ls (by decide) h), fun h => F23 (ls (by decide) h), fun h => F24 (ls (by decide) h), fun h => F25 (ls (by decide) h), fun h => F26 (ls (by decide) h), fun h => F27 (ls (by decide) h), fun h => F28 (ls (by decide) h), fun h => F29 (ls (by decide) h), fun h => F30 (ls (by decide) h), fun h => F31 (ls (by decide) h), fun h => F32 (ls (by decide) h), fun h => F33 (ls (by decide) h), fun h => F34 (ls (by decide) h), fun h => F35 (ls (by decide) h), fun h => F36 (ls (by decide) h), fun h => F37 (ls (by decide) h), F38, F39, F40, F41, F42, F43, F44⟩
    · simp only [List.getElem?_toArray, List.getElem?_cons_zero, List.getElem?_cons_succ, Option.some.injEq] at ho
      subst ho
      obtain rfl := F17 (hd ⟨17, .data⟩ (by simp) rfl)
      refine wpOp_step rfl (fun K hK => ?_)
      go_simp
      refine hK _ _ ?_
      exact ⟨_, _, _, _, _, _, _, _, _, _, _, _, _, _, _, _, _, _, _, _, _, _, _, _, _, _, _, _, _, _, _, _, _, _, _, _, _, _, rfl, fun h => F0 (ls (by decide) h), fun h => F1 (ls (by decide) h), fun h => F2 (ls (by decide) h), fun h => F3 (ls (by decide) h), fun h => F4 (ls (by decide) h), fun h => F5 (ls (by decide) h), fun h => F6 (ls (by decide) h), fun h => F7 (ls (by decide) h), fun h => F8 (ls (by decide) h), fun h => F9 (ls (by decide) h), fun h => F10 (ls (by decide) h), fun h => F11 (ls (by decide) h), fun h => F12 (ls (by decide) h), fun h => F13 (ls (by decide) h), fun h => F14 (ls (by decide) h), fun h => F15 (ls (by decide) h), fun h => F16 (ls (by decide) h), fun h => F17 (ls (by decide) h), fun _ => rfl, fun h => F19 (ls (by decide) h), fun h => F20 (ls (by decide) h), fun h => F21 (ls (by decide) h), fun h => F22 (ls (by decide) h), fun h => F23 (ls (by decide) h), fun h => F24 (ls (by decide) h), fun h => F25 (ls (by decide) h), fun h => F26 (ls (by decide) h), fun h => F27 (ls (by decide) h), fun h => F28 (ls (by decide) h), fun h => F29 (ls (by decide) h), fun h => F30 (ls (by decide) h), fun h => F31 (ls (by decide) h), fun h => F32 (ls (by decide) h), fun h => F33 (ls (by decide) h), fun h => F34 (ls (by decide) h), fun h => F35 (ls (by decide) h), fun h => F36 (ls (by decide) h), fun h => F37 (ls (by decide) h), F38, F39, F40, F41, F42, F43, F44⟩
    · simp only [List.getElem?_toArray, List.getElem?_cons_zero, List.getElem?_cons_succ, Option.some.injEq] at ho
      subst ho
      obtain rfl := F18 (hd ⟨18, .guard⟩ (by simp) rfl)
      have O'0 := F39; obtain ⟨_, _, _, _⟩ := O'0
      refine wpOp_step rfl (fun K hK => ?_)
      go_simp
      refine hK _ _ ?_
      exact ⟨_, _, _, _, _, _, _, _, _, _, _, _, _, _, _, _, _, _, _, _, _, _, _, _, _, _, _, _, _, _, _, _, _, _, _, _, _, _, rfl, fun h => F0 (ls (by decide) h), fun h => F1 (ls (by decide) h), fun h => F2 (ls (by decide) h), fun h => F3 (ls (by decide) h), fun h => F4 (ls (by decide) h), fun h => F5 (ls (by decide) h), fun h => F6 (ls (by decide) h), fun h => F7 (ls (by decide) h), fun h => F8 (ls (by decide) h), fun h => F9 (ls (by decide) h), fun h => F10 (ls (by decide) h), fun h => F11 (ls (by decide) h), fun h => F12 (ls (by decide) h), fun h => F13 (ls (by decide) h), fun h => F14 (ls (by decide) h), fun h => F15 (ls (by decide) h), fun h => F16 (ls (by decide) h), fun h => F17 (ls (by decide) h), fun h => F18 (ls (by decide) h), fun _ => rfl, fun h => F20 (ls (by decide) h), fun h => F21 (ls (by decide) h), fun h => F22 (ls (by decide) h), fun h => F23 (ls (by decide) h), fun h => F24 (ls (by decide) h), fun h => F25 (ls (by decide) h), fun h => F26 (ls (by decide) h), fun h => F27 (ls (by decide) h), fun h => F28 (ls (by decide) h), fun h => F29 (ls (by decide) h), fun h => F30 (ls (by decide) h), fun h => F31 (ls (by decide) h), fun h => F32 (ls (by decide) h), fun h => F33 (ls (by decide) h), fun h => F34 (ls (by decide) h), fun h => F35 (ls (by decide) h), fun h => F36 (ls (by decide) h), fun h => F37 (ls (by decide) h), F38, F39, F40, F41, F42, F43, F44⟩
    · simp only [List.getElem?_toArray, List.getElem?_cons_zero, List.getElem?_cons_succ, Option.some.injEq] at ho
      subst ho
      obtain rfl := F18 (hd ⟨18, .guard⟩ (by simp) rfl)
      have O'1 := F40; obtain ⟨_, _, _, _⟩ := O'1
      refine wpOp_step rfl (fun K hK => ?_)
      go_simp
      refine hK _ _ ?_
      exact ⟨_, _, _, _, _, _, _, _, _, _, _, _, _, _, _, _, _, _, _, _, _, _, _, _, _, _, _, _, _, _, _, _, _, _, _, _, _, _, rfl, fun h => F0 (ls (by decide) h), fun h => F1 (ls (by decide) h), fun h => F2 (ls (by decide) h), fun h => F3 (ls (by decide) h), fun h => F4 (ls (by decide) h), fun h => F5 (ls (by decide) h), fun h => F6 (ls (by decide) h), fun h => F7 (ls (by decide) h), fun h => F8 (ls (by decide) h), fun h => F9 (ls (by decide) h), fun h => F10 (ls (by decide) h), fun h => F11 (ls (by decide) h), fun h => F12 (ls (by decide) h), fun h => F13 (ls (by decide) h), fun h => F14 (ls (by decide) h), fun h => F15 (ls (by decide) h), fun h => F16 (ls (by decide) h), fun h => F17 (ls (by decide) h), fun h => F18 (ls (by decide) h), fun h => F19 (ls (by decide) h), fun _ => rfl, fun h => F21 (ls (by decide) h), fun h => F22 (ls (by decide) h), fun h => F23 (ls (by decide) h), fun h => F24 (ls (by decide) h), fun h => F25 (ls (by decide) h), fun h => F26 (ls (by decide) h), fun h => F27 (ls (by decide) h), fun h => F28 (ls (by decide) h), fun h => F29 (ls (by decide) h), fun h => F30 (ls (by decide) h), fun h => F31 (ls (by decide) h), fun h => F32 (ls (by decide) h), fun h => F33 (ls (by decide) h), fun h => F34 (ls (by decide) h), fun h => F35 (ls (by decide) h), fun h => F36 (ls (by decide) h), fun h => F37 (ls (by decide) h), F38, F39, F40, F41, F42, F43, F44⟩
    · simp only [List.getElem?_toArray, List.getElem?_cons_zero, List.getElem?_cons_succ, Option.some.injEq] at ho
      subst ho
      obtain rfl := F19 (hd ⟨19, .data⟩ (by simp) rfl)
      obtain rfl := F20 (hd ⟨20, .data⟩ (by simp) rfl)
      obtain rfl := F18 (hd ⟨18, .guard⟩ (by simp) rfl)
      refine wpOp_step rfl (fun K hK => ?_)
      go_simp
      go_at_call 25; refine (K1.out.call _).mono ?_; rintro e w' ⟨rfl, hb⟩
      refine hK _ _ ?_
      exact ⟨_, _, _, _, _, _, _, _, _, _, _, _, _, _, _, _, _, _, _, _, _, _, _, _, _, _, _, _, _, _, _, _, _, _, _, _, _, _, rfl, fun h => F0 (ls (by decide) h), fun h => F1 (ls (by decide) h), fun h => F2 (ls (by decide) h), fun h => F3 (ls (by decide) h), fun h => F4 (ls (by decide) h), fun h => F5 (ls (by decide) h), fun h => F6 (ls (by decide) h), fun h => F7 (ls (by decide) h), fun h => F8 (ls (by decide) h), fun h => F9 (ls (by decide) h), fun h => F10 (ls (by decide) h), fun h => F11 (ls (by decide) h), fun h => F12 (ls (by decide) h), fun h => F13 (ls (by decide) h), fun h => F14 (ls (by decide) h), fun h => F15 (ls (by decide) h), fun h => F16 (ls (by decide) h), fun h => F17 (ls (by decide) h), fun h => F18 (ls (by decide) h), fun h => F19 (ls (by decide) h), fun h => F20 (ls (by decide) h), fun _ => rfl, fun h => F22 (ls (by decide) h), fun h => F23 (ls (by decide) h), fun h => F24 (ls (by decide) h), fun h => F25 (ls (by decide) h), fun h => F26 (ls (by decide) h), fun h => F27 (ls (by decide) h), fun h => F28 (ls (by decide) h), fun h => F29 (ls (by decide) h), fun h => F30 (ls (by decide) h), fun h => F31 (ls (by decide) h), fun h => F32 (ls (by decide) h), fun h => F33 (ls (by decide) h), fun h => F34 (ls (by decide) h), fun h => F35 (ls (by decide) h), fun h => F36 (ls (by decide) h), fun h => F37 (ls (by decide) h), bt F38 hb, (F39).call hb, (F40).call hb, (F41).call hb, (F42).call hb, (F43).call hb, (F44).call hb⟩
    · simp only [List.getElem?_toArray, List.getElem?_cons_zero, List.getElem?_cons_succ, Option.some.injEq] at ho
      subst ho
      obtain rfl := F18 (hd ⟨18, .guard⟩ (by simp) rfl)
      have O'1 := F40; obtain ⟨_, _, _, _⟩ := O'1
      refine wpOp_step rfl (fun K hK => ?_)
      go_simp
      refine hK _ _ ?_
      exact ⟨_, _, _, _, _, _, _, _, _, _, _, _, _, _, _, _, _, _, _, _, _, _, _, _, _, _, _, _, _, _, _, _, _, _, _, _, _, _, rfl, fun h => F0 (ls (by decide) h), fun h => F1 (ls (by decide) h), fun h => F2 (ls (by decide) h), fun h => F3 (ls (by decide) h), fun h => F4 (ls (by decide) h), fun h => F5 (ls (by decide) h), fun h => F6 (ls (by decide) h), fun h => F7 (ls (by decide) h), fun h => F8 (ls (by decide) h), fun h => F9 (ls (by decide) h), fun h => F10 (ls (by decide) h), fun h => F11 (ls (by decide) h), fun h => F12 (ls (by decide) h), fun h => F13 (ls (by decide) h), fun h => F14 (ls (by decide) h), fun h => F15 (ls (by decide) h), fun h => F16 (ls (by decide) h), fun h => F17 (ls (by decide) h), fun h => F18 (ls (by decide) h), fun h => F19 (ls (by decide) h), fun h => F20 (ls (by decide) h), fun h => F21 (ls (by decide) h), fun _ => rfl, fun h => F23 (ls (by decide) h), fun h => F24 (ls (by decide) h), fun h => F25 (ls (by decide) h), fun h => F26 (ls (by decide) h), fun h => F27 (ls (by decide) h), fun h => F28 (ls (by decide) h), fun h => F29 (ls (by decide) h), fun h => F30 (ls (by decide) h), fun h => F31 (ls (by decide) h), fun h => F32 (ls (by decide) h), fun h => F33 (ls (by decide) h), fun h => F34 (ls (by decide) h), fun h => F35 (ls (by decide) h), fun h => F36 (ls (by decide) h), fun h => F37 (ls (by decide) h), F38, F39, F40, F41, F42, F43, F44⟩
    · simp only [List.getElem?_toArray, List.getElem?_cons_zero, List.getElem?_cons_succ, Option.some.injEq] at ho
      subst ho
      obtain rfl := F18 (hd ⟨18, .guard⟩ (by simp) rfl)
      have O'0 := F39; obtain ⟨_, _, _, _⟩ := O'0
      refine wpOp_step rfl (fun K hK => ?_)
      go_simp
      refine hK _ _ ?_
      exact ⟨_, _, _, _, _, _, _, _, _, _, _, _, _, _, _, _, _, _, _, _, _, _, _, _, _, _, _, _, _, _, _, _, _, _, _, _, _, _, rfl, fun h => F0 (ls (by decide) h), fun h => F1 (ls (by decide) h), fun h => F2 (ls (by decide) h), fun h => F3 (ls (by decide) h), fun h => F4 (ls (by decide) h), fun h => F5 (ls (by decide) h), fun h => F6 (ls (by decide) h), fun h => F7 (ls (by decide) h), fun h => F8 (ls (by decide) h), fun h => F9 (ls (by decide) h), fun h => F10 (ls (by decide) h), fun h => F11 (ls (by decide) h), fun h => F12 (ls (by decide) h), fun h => F13 (ls (by decide) h), fun h => F14 (ls (by decide) h), fun h => F15 (ls (by decide) h), fun h => F16 (ls (by decide) h), fun h => F17 (ls (by decide) h), fun h => F18 (ls (by decide) h), fun h => F19 (ls (by decide) h), fun h => F20 (ls (by decide) h), fun h => F21 (ls (by decide) h), fun h => F22 (ls (by decide) h), fun _ => rfl, fun h => F24 (ls (by decide) h), fun h => F25 (ls (by decide) h), fun h => F26 (ls (by decide) h), fun h => F27 (ls (by decide) h), fun h => F28 (ls (by decide) h), fun h => F29 (ls (by decide) h), fun h => F30 (ls (by decide) h), fun h => F31 (ls (by decide) h), fun h => F32 (ls (by decide) h), fun h => F33 (ls (by decide) h), fun h => F34 (ls (by decide) h), fun h => F35 (ls (by decide) h), fun h => F36 (ls (by decide) h), fun h => F37 (ls (by decide) h), F38, F39, F40, F41, F42, F43, F44⟩
    · simp only [List.getElem?_toArray, List.getElem?_cons_zero, List.getElem?_cons_succ, Option.some.injEq] at ho
      subst ho
      obtain rfl := F22 (hd ⟨22, .data⟩ (by simp) rfl)
      obtain rfl := F23 (hd ⟨23, .data⟩ (by simp) rfl)
      obtain rfl := F18 (hd ⟨18, .guard⟩ (by simp) rfl)
      refine wpOp_step rfl (fun K hK => ?_)
      go_simp
      go_at_call 25; refine (K2.out.call _).mono ?_; rintro e w' ⟨rfl, hb⟩
      refine hK _ _ ?_
      exact ⟨_, _, _, _, _, _, _, _, _, _, _, _, _, _, _, _, _, _, _, _, _, _, _, _, _, _, _, _, _, _, _, _, _, _, _, _, _, _, rfl, fun h => F0 (ls (by decide) h), fun h => F1 (ls (by decide) h), fun h => F2 (ls (by decide) h), fun h => F3 (ls (by decide) h), fun h => F4 (ls (by decide) h), fun h => F5 (ls (by decide) h), fun h => F6 (ls (by decide) h), fun h => F7 (ls (by decide) h), fun h => F8 (ls (by decide) h), fun h => F9 (ls (by decide) h), fun h => F10 (ls (by decide) h), fun h => F11 (ls (by decide) h), fun h => F12 (ls (by decide) h), fun h => F13 (ls (by decide) h), fun h => F14 (ls (by decide) h), fun h => F15 (ls (by decide) h), fun h => F16 (ls (by decide) h), fun h => F17 (ls (by decide) h), fun h => F18 (ls (by decide) h), fun h => F19 (ls (by decide) h), fun h => F20 (ls (by decide) h), fun h => F21 (ls (by decide) h), fun h => F22 (ls (by decide) h), fun h => F23 (ls (by decide) h), fun _ => rfl, fun h => F25 (ls (by decide) h), fun h => F26 (ls (by decide) h), fun h => F27 (ls (by decide) h), fun h => F28 (ls (by decide) h), fun h => F29 (ls (by decide) h), fun h => F30 (ls (by decide) h), fun h => F31 (ls (by decide) h), fun h => F32 (ls (by decide) h), fun h => F33 (ls (by decide) h), fun h => F34 (ls (by decide) h), fun h => F35 (ls (by decide) h), fun h => F36 (ls (by decide) h), fun h => F37 (ls (by decide) h), bt F38 hb, (F39).call hb, (F40).call hb, (F41).call hb, (F42).call hb, (F43).call hb, (F44).call hb⟩
    · simp only [List.getElem?_toArray, List.getElem?_cons_zero, List.getElem?_cons_succ, Option.some.injEq] at ho
      subst ho
      obtain rfl := F24 (hd ⟨24, .data⟩ (by simp) rfl)
      obtain rfl := F18 (hd ⟨18, .guard⟩ (by simp) rfl)
      refine wpOp_step rfl (fun K hK => ?_)
      go_simp
      refine hK _ _ ?_
      exact ⟨_, _, _, _, _, _, _, _, _, _, _, _, _, _, _, _, _, _, _, _, _, _, _, _, _, _, _, _, _, _, _, _, _, _, _, _, _, _, rfl, fun h => F0 (ls (by decide) h), fun h => F1 (ls (by decide) h), fun h => F2 (ls (by decide) h), fun h => F3 (ls (by decide) h), fun h => F4 (ls (by decide) h), fun h => F5 (ls (by decide) h), fun h => F6 (ls (by decide) h), fun h => F7 (ls (by decide) h), fun h => F8 (ls (by decide) h), fun h => F9 (ls (by decide) h), fun h => F10 (ls (by decide) h), fun h => F11 (ls (by decide) h), fun h => F12 (ls (by decide) h), fun h => F13 (ls (by decide) h), fun h => F14 (ls (by decide) h), fun h => F15 (ls (by decide) h), fun h => F16 (ls (by decide) h), fun h => F17 (ls (by decide) h), fun h => F18 (ls (by decide) h), fun h => F19 (ls (by decide) h), fun h => F20 (ls (by decide) h), fun h => F21 (ls (by decide) h), fun h => F22 (ls (by decide) h), fun h => F23 (ls (by decide) h), fun h => F24 (ls (by decide) h), fun _ => rfl, fun h => F26 (ls (by decide) h), fun h => F27 (ls (by decide) h), fun h => F28 (ls (by decide) h), fun h => F29 (ls (by decide) h), fun h => F30 (ls (by decide) h), fun h => F31 (ls (by decide) h), fun h => F32 (ls (by decide) h), fun h => F33 (ls (by decide) h), fun h => F34 (ls (by decide) h), fun h => F35 (ls (by decide) h), fun h => F36 (ls (by decide) h), fun h => F37 (ls (by decide) h), F38, F39, F40, F41, F42, F43, F44⟩
    · simp only [List.getElem?_toArray, List.getElem?_cons_zero, List.getElem?_cons_succ, Option.some.injEq] at ho
      subst ho
      obtain rfl := F21 (hd ⟨21, .data⟩ (by simp) rfl)
      obtain rfl := F25 (hd ⟨25, .data⟩ (by simp) rfl)
      obtain rfl := F18 (hd ⟨18, .guard⟩ (by simp) rfl)
      refine wpOp_step rfl (fun K hK => ?_)
      go_simp
      refine hK _ _ ?_
      exact ⟨_, _, _, _, _, _, _, _, _, _, _, _, _, _, _, _, _, _, _, _, _, _, _, _, _, _, _, _, _, _, _, _, _, _, _, _, _, _, rfl, fun h => F0 (ls (by decide) h), fun h => F1 (ls (by decide) h), fun h => F2 (ls (by decide) h), fun h => F3 (ls (by decide) h), fun h => F4 (ls (by decide) h), fun h => F5 (ls (by decide) h), fun h => F6 (ls (by decide) h), fun h => F7 (ls (by decide) h), fun h => F8 (ls (by decide) h), fun h => F9 (ls (by decide) h), fun h => F10 (ls (by decide) h), fun h => F11 (ls (by decide) h), fun h => F12 (ls (by decide) h), fun h => F13 (ls (by decide) h), fun h => F14 (ls (by decide) h), fun h => F15 (ls (by decide) h), fun h => F16 (ls (by decide) h), fun h => F17 (ls (by decide) h), fun h => F18 (ls (by decide) h), fun h => F19 (ls (by decide) h), fun h => F20 (ls (by decide) h), fun h => F21 (ls (by decide) h), fun h => F22 (ls (by decide) h), fun h => F23 (ls (by decide) h), fun h => F24 (ls (by decide) h), fun h => F25 (ls (by decide) h), fun _ => rfl, fun h => F27 (ls (by decide) h), fun h => F28 (ls (by decide) h), fun h => F29 (ls (by decide) h), fun h => F30 (ls (by decide) h), fun h => F31 (ls (by decide) h), fun h => F32 (ls (by decide) h), fun h => F33 (ls (by decide) h), fun h => F34 (ls (by decide) h), fun h => F35 (ls (by decide) h), fun h => F36 (ls (by decide) h), fun h => F37 (ls (by decide) h), F38, F39, F40, F41, F42, F43, F44⟩
    · simp only [List.getElem?_toArray, List.getElem?_cons_zero, List.getElem?_cons_succ, Option.some.injEq] at ho
      subst ho
      obtain rfl := F18 (hd ⟨18, .data⟩ (by simp) rfl)
      obtain rfl := F26 (hd ⟨26, .data⟩ (by simp) rfl)
      refine wpOp_step rfl (fun K hK => ?_)
      go_simp
      refine hK _ _ ?_
      exact ⟨_, _, _, _, _, _, _, _, _, _, _, _, _, _, _, _, _, _, _, _, _, _, _, _, _, _, _, _, _, _, _, _, _, _, _, _, _, _, rfl, fun h => F0 (ls (by decide) h), fun h => F1 (ls (by decide) h), fun h => F2 (ls (by decide) h), fun h => F3 (ls (by decide) h), fun h => F4 (ls (by decide) h), fun h => F5 (ls (by decide) h), fun h => F6 (ls (by decide) h), fun h => F7 (ls (by decide) h), fun h => F8 (ls (by decide) h), fun h => F9 (ls (by decide) h), fun h => F10 (ls (by decide) h), fun h => F11 (ls (by decide) h), fun h => F12 (ls (by decide) h), fun h => F13 (ls (by decide) h), fun h => F14 (ls (by decide) h), fun h => F15 (ls (by decide) h), fun h => F16 (ls (by decide) h), fun h => F17 (ls (by decide) h), fun h => F18 (ls (by decide) h), fun h => F19 (ls (by decide) h), fun h => F20 (ls (by decide) h), fun h => F21 (ls (by decide) h), fun h => F22 (ls (by decide) h), fun h => F23 (ls (by decide) h), fun h => F24 (ls (by decide) h), fun h => F25 (ls (by decide) h), fun h => F26 (ls (by decide) h), fun _ => rfl, fun h => F28 (ls (by decide) h), fun h => F29 (ls (by decide) h), fun h => F30 (ls (by decide) h), fun h => F31 (ls (by decide) h), fun h => F32 (ls (by decide) h), fun h => F33 (ls (by decide) h), fun h => F34 (ls (by decide) h), fun h => F35 (ls (by decide) h), fun h => F36 (ls (by decide) h), fun h => F37 (ls (by decide) h), F38, F39, F40, F41, F42, F43, F44⟩
    · simp only [List.getElem?_toArray, List.getElem?_cons_zero, List.getElem?_cons_succ, Option.some.injEq] at ho
      subst ho
      obtain rfl := F27 (hd ⟨27, .data⟩ (by simp) rfl)
      refine wpOp_step rfl (fun K hK => ?_)
      go_simp
      refine hK _ _ ?_
      exact ⟨_, _, _, _, _, _, _, _, _, _, _, _, _, _, _, _, _, _, _, _, _, _, _, _, _, _, _, _, _, _, _, _, _, _, _, _, _, _, rfl, fun h => F0 (ls (by decide) h), fun h => F1 (ls (by decide) h), fun h => F2 (ls (by decide) h), fun h => F3 (ls (by decide) h), fun h => F4 (ls (by decide) h), fun h => F5 (ls (by decide) h), fun h => F6 (ls (by decide) h), fun h => F7 (ls (by decide) h), fun h => F8 (ls (by decide) h), fun h => F9 (ls (by decide) h), fun h => F10 (ls (by decide) h), fun h => F11 (ls (by decide) h), fun h => F12 (ls (by decide) h), fun h => F13 (ls (by decide) h), fun h => F14 (ls (by decide) h), fun h => F15 (ls (by decide) h), fun h => F16 (ls (by decide) h), fun h => F17 (ls (by decide) h), fun h => F18 (ls (by decide) h), fun h => F19 (ls (by decide) h), fun h => F20 (ls (by decide) h), fun h => F21 (ls (by decide) h), fun h => F22 (ls (by decide) h), fun h => F23 (ls (by decide) h), fun h => F24 (ls (by decide) h), fun h => F25 (ls (by decide) h), fun h => F26 (ls (by decide) h), fun h => F27 (ls (by decide) h), fun _ => rfl, fun h => F29 (ls (by decide) h), fun h => F30 (ls (by decide) h), fun h => F31 (ls (by decide) h), fun h => F32 (ls (by decide) h), fun h => F33 (ls (by decide) h), fun h => F34 (ls (by decide) h), fun h => F35 (ls (by decide) h), fun h => F36 (ls (by decide) h), fun h => F37 (ls (by decide) h), F38, F39, F40, F41, F42, F43, F44⟩
    · simp only [List.getElem?_toArray, List.getElem?_cons_zero, List.getElem?_cons_succ, Option.some.injEq] at ho
      subst ho
      obtain rfl := F28 (hd ⟨28, .guard⟩ (by simp) rfl)
      have O'0 := F39; obtain ⟨_, _, _, _⟩ := O'0
      refine wpOp_step rfl (fun K hK => ?_)
      go_simp
      refine hK _ _ ?_
      exact ⟨_, _, _, _, _, _, _, _, _, _, _, _, _, _, _, _, _, _, _, _, _, _, _, _, _, _, _, _, _, _, _, _, _, _, _, _, _, _, rfl, fun h => F0 (ls (by decide) h), fun h => F1 (ls (by decide) h), fun h => F2 (ls (by decide) h), fun h => F3 (ls (by decide) h), fun h => F4 (ls (by decide) h), fun h => F5 (ls (by decide) h), fun h => F6 (ls (by decide) h), fun h => F7 (ls (by decide) h), fun h => F8 (ls (by decide) h), fun h => F9 (ls (by decide) h), fun h => F10 (ls (by decide) h), fun h => F11 (ls (by decide) h), fun h => F12 (ls (by decide) h), fun h => F13 (ls (by decide) h), fun h => F14 (ls (by decide) h), fun h => F15 (ls (by decide) h), fun h => F16 (ls (by decide) h), fun h => F17 (ls (by decide) h), fun h => F18 (ls (by decide) h), fun h => F19 (ls (by decide) h), fun h => F20 (ls (by decide) h), fun h => F21 (ls (by decide) h), fun h => F22 (ls (by decide) h), fun h => F23 (ls (by decide) h), fun h => F24 (ls (by decide) h), fun h => F25 (ls (by decide) h), fun h => F26 (ls (by decide) h), fun h => F27 (ls (by decide) h), fun h => F28 (ls (by decide) h), fun _ => rfl, fun h => F30 (ls (by decide) h), fun h => F31 (ls (by decide) h), fun h => F32 (ls (by decide) h), fun h => F33 (ls (by decide) h), fun h => F34 (ls (by decide) h), fun h => F35 (ls (by decide) h), fun h => F36 (ls (by decide) h), fun h => F37 (ls (by decide) h), F38, F39, F40, F41, F42, F43, F44⟩
    · simp only [List.getElem?_toArray, List.getElem?_cons_zero, List.getElem?_cons_succ, Option.some.injEq] at ho
      subst ho
      obtain rfl := F28 (hd ⟨28, .guard⟩ (by simp) rfl)
      have O'1 := F40; obtain ⟨_, _, _, _⟩ := O'1
      refine wpOp_step rfl (fun K hK => ?_)
      go_simp
      refine hK _ _ ?_
      exact ⟨_, _, _, _, _, _, _, _, _, _, _, _, _, _, _, _, _, _, _, _, _, _, _, _, _, _, _, _, _, _, _, _, _, _, _, _, _, _, rfl, fun h => F0 (ls (by decide) h), fun h => F1 (ls (by decide) h), fun h => F2 (ls (by decide) h), fun h => F3 (ls (by decide) h), fun h => F4 (ls (by decide) h), fun h => F5 (ls (by decide) h), fun h => F6 (ls (by decide) h), fun h => F7 (ls (by decide) h), fun h => F8 (ls (by decide) h), fun h => F9 (ls (by decide) h), fun h => F10 (ls (by decide) h), fun h => F11 (ls (by decide) h), fun h => F12 (ls (by decide) h), fun h => F13 (ls (by decide) h), fun h => F14 (ls (by decide) h), fun h => F15 (ls (by decide) h), fun h => F16 (ls (by decide) h), fun h => F17 (ls (by decide) h), fun h => F18 (ls (by decide) h), fun h => F19 (ls (by decide) h), fun h => F20 (ls (by decide) h), fun h => F21 (ls (by decide) h), fun h => F22 (ls (by decide) h), fun h => F23 (ls (by decide) h), fun h => F24 (ls (by decide) h), fun h => F25 (ls (by decide) h), fun h => F26 (ls (by decide) h), fun h => F27 (ls (by decide) h), fun h => F28 (ls (by decide) h), fun h => F29 (ls (by decide) h), fun _ => rfl, fun h => F31 (ls (by decide) h), fun h => F32 (ls (by decide) h), fun h => F33 (ls (by decide) h), fun h => F34 (ls (by decide) h), fun h => F35 (ls (by decide) h), fun h => F36 (ls (by decide) h), fun h => F37 (ls (by decide) h), F38, F39, F40, F41, F42, F43, F44⟩
    · simp only [List.getElem?_toArray, List.getElem?_cons_zero, List.getElem?_cons_succ, Option.some.injEq] at ho
      subst ho
      obtain rfl := F29 (hd ⟨29, .data⟩ (by simp) rfl)
      obtain rfl := F30 (hd ⟨30, .data⟩ (by simp) rfl)
      obtain rfl := F28 (hd ⟨28, .guard⟩ (by simp) rfl)
      refine wpOp_step rfl (fun K hK => ?_)
      go_simp
      go_at_call 25; refine (K1.out.call _).mono ?_; rintro e w' ⟨rfl, hb⟩
      refine hK _ _ ?_
      exact ⟨_, _, _, _, _, _, _, _, _, _, _, _, _, _, _, _, _, _, _, _, _, _, _, _, _, _, _, _, _, _, _, _, _, _, _, _, _, _, rfl, fun h => F0 (ls (by decide) h), fun h => F1 (ls (by decide) h), fun h => F2 (ls (by decide) h), fun h => F3 (ls (by decide) h), fun h => F4 (ls (by decide) h), fun h => F5 (ls (by decide) h), fun h => F6 (ls (by decide) h), fun h => F7 (ls (by decide) h), fun h => F8 (ls (by decide) h), fun h => F9 (ls (by decide) h), fun h => F10 (ls (by decide) h), fun h => F11 (ls (by decide) h), fun h => F12 (ls (by decide) h), fun h => F13 (ls (by decide) h), fun h => F14 (ls (by decide) h), fun h => F15 (ls (by decide) h), fun h => F16 (ls (by decide) h), fun h => F17 (ls (by decide) h), fun h => F18 (ls (by decide) h), fun h => F19 (ls (by decide) h), fun h => F20 (ls (by decide) h), fun h => F21 (ls (by decide) h), fun h => F22 (ls (by decide) h), fun h => F23 (ls (by decide) h), fun h => F24 (ls (by decide) h), fun h => F25 (ls (by decide) h), fun h => F26 (ls (by decide) h), fun h => F27 (ls (by decide) h), fun h => F28 (ls (by decide) h), fun h => F29 (ls (by decide) h), fun h => F30 (ls (by decide) h), fun _ => rfl, fun h => F32 (ls (by decide) h), fun h => F33 (ls (by decide) h), fun h => F34 (ls (by decide) h), fun h => F35 (ls (by decide) h), fun h => F36 (ls (by decide) h), fun h => F37 (ls (by decide) h), bt F38 hb, (F39).call hb, (F40).call hb, (F41).call hb, (F42).call hb, (F43).call hb, (F44).call hb⟩
    · simp only [List.getElem?_toArray, List.getElem?_cons_zero, List.getElem?_cons_succ, Option.some.injEq] at ho
      subst ho
      obtain rfl := F31 (hd ⟨31, .data⟩ (by simp) rfl)
      obtain rfl := F28 (hd ⟨28, .guard⟩ (by simp) rfl)
      refine wpOp_step rfl (fun K hK => ?_)
      go_simp
      refine hK _ _ ?_
      exact ⟨_, _, _, _, _, _, _, _, _, _, _, _, _, _, _, _, _, _, _, _, _, _, _, _, _, _, _, _, _, _, _, _, _, _, _, _, _, _, rfl, fun h => F0 (ls (by decide) h), fun h => F1 (ls (by decide) h), fun h => F2 (ls (by decide) h), fun h => F3 (ls (by decide) h), fun h => F4 (ls (by decide) h), fun h => F5 (ls (by decide) h), fun h => F6 (ls (by decide) h), fun h => F7 (ls (by decide) h), fun h => F8 (ls (by decide) h), fun h => F9 (ls (by decide) h), fun h => F10 (ls (by decide) h), fun h => F11 (ls (by decide) h), fun h => F12 (ls (by decide) h), fun h => F13 (ls (by decide) h), fun h => F14 (ls (by decide) h), fun h => F15 (ls (by decide) h), fun h => F16 (ls (by decide) h), fun h => F17 (ls (by decide) h), fun h => F18 (ls (by decide) h), fun h => F19 (ls (by decide) h), fun h => F20 (ls (by decide) h), fun h => F21 (ls (by decide) h), fun h => F22 (ls (by decide) h), fun h => F23 (ls (by decide) h), fun h => F24 (ls (by decide) h), fun h => F25 (ls (by decide) h), fun h => F26 (ls (by decide) h), fun h => F27 (ls (by decide) h), fun h => F28 (ls (by decide) h), fun h => F29 (ls (by decide) h), fun h => F30 (ls (by decide) h), fun h => F31 (ls (by decide) h), fun _ => rfl, fun h => F33 (ls (by decide) h), fun h => F34 (ls (by decide) h), fun h => F35 (ls (by decide) h), fun h => F36 (ls (by decide) h), fun h => F37 (ls (by decide) h), F38, F39, F40, F41, F42, F43, F44⟩
    · simp only [List.getElem?_toArray, List.getElem?_cons_zero, List.getElem?_cons_succ, Option.some.injEq] at ho
      subst ho
      obtain rfl := F28 (hd ⟨28, .guard⟩ (by simp) rfl)
      have O'0 := F39; obtain ⟨_, _, _, _⟩ := O'0
      refine wpOp_step rfl (fun K hK => ?_)
      go_simp
      refine hK _ _ ?_
      exact ⟨_, _, _, _, _, _, _, _, _, _, _, _, _, _, _, _, _, _, _, _, _, _, _, _, _, _, _, _, _, _, _, _, _, _, _, _, _, _, rfl, fun h => F0 (ls (by decide) h), fun h => F1 (ls (by decide) h), fun h => F2 (ls (by decide) h), fun h => F3 (ls (by decide) h), fun h => F4 (ls (by decide) h), fun h => F5 (ls (by decide) h), fun h => F6 (ls (by decide) h), fun h => F7 (ls (by decide) h), fun h => F8 (ls (by decide) h), fun h => F9 (ls (by decide) h), fun h => F10 (ls (by decide) h), fun h => F11 (ls (by decide) h), fun h => F12 (ls (by decide) h), fun h => F13 (ls (by decide) h), fun h => F14 (ls (by decide) h), fun h => F15 (ls (by decide) h), fun h => F16 (ls (by decide) h), fun h => F17 (ls (by decide) h), fun h => F18 (ls (by decide) h), fun h => F19 (ls (by decide) h), fun h => F20 (ls (by decide) h), fun h => F21 (ls (by decide) h), fun h => F22 (ls (by decide) h), fun h => F23 (ls (by decide) h), fun h => F24 (ls (by decide) h), fun h => F25 (ls (by decide) h), fun h => F26 (ls (by decide) h), fun h => F27 (ls (by decide) h), fun h => F28 (ls (by decide) h), fun h => F29 (ls (by decide) h), fun h => F30 (ls (by decide) h), fun h => F31 (ls (by decide) h), fun h => F32 (ls (by decide) h), fun _ => rfl, fun h => F34 (ls (by decide) h), fun h => F35 (ls (by decide) h), fun h => F36 (ls (by decide) h), fun h => F37 (ls (by decide) h), F38, F39, F40, F41, F42, F43, F44⟩
    · simp only [List.getElem?_toArray, List.getElem?_cons_zero, List.getElem?_cons_succ, Option.some.injEq] at ho
      subst ho
      obtain rfl := F28 (hd ⟨28, .guard⟩ (by simp) rfl)
      have O'1 := F40; obtain ⟨_, _, _, _⟩ := O'1
      refine wpOp_step rfl (fun K hK => ?_)
      go_simp
      refine hK _ _ ?_
      exact ⟨_, _, _, _, _, _, _, _, _, _, _, _, _, _, _, _, _, _, _, _, _, _, _, _, _, _, _, _, _, _, _, _, _, _, _, _, _, _, rfl, fun h => F0 (ls (by decide) h), fun h => F1 (ls (by decide) h), fun h => F2 (ls (by decide) h), fun h => F3 (ls (by decide) h), fun h => F4 (ls (by decide) h), fun h => F5 (ls (by decide) h), fun h => F6 (ls (by decide) h), fun h => F7 (ls (by decide) h), fun h => F8 (ls (by decide) h), fun h => F9 (ls (by decide) h), fun h => F10 (ls (by decide) h), fun h => F11 (ls (by decide) h), fun h => F12 (ls (by decide) h), fun h => F13 (ls (by decide) h), fun h => F14 (ls (by decide) h), fun h => F15 (ls (by decide) h), fun h => F16 (ls (by decide) h), fun h => F17 (ls (by decide) h), fun h => F18 (ls (by decide) h), fun h => F19 (ls (by decide) h), fun h => F20 (ls (by decide) h), fun h => F21 (ls (by decide) h), fun h => F22 (ls (by decide) h), fun h => F23 (ls (by decide) h), fun h => F24 (ls (by decide) h), fun h => F25 (ls (by decide) h), fun h => F26 (ls (by decide) h), fun h => F27 (ls (by decide) h), fun h => F28 (ls (by decide) h), fun h => F29 (ls (by decide) h), fun h => F30 (ls (by decide) h), fun h => F31 (ls (by decide) h), fun h => F32 (ls (by decide) h), fun h => F33 (ls (by decide) h), fun _ => rfl, fun h => F35 (ls (by decide) h), fun h => F36 (ls (by decide) h), fun h => F37 (ls (by decide) h), F38, F39, F40, F41, F42, F43, F44⟩
    · simp only [List.getElem?_toArray, List.getElem?_cons_zero, List.getElem?_cons_succ, Option.some.injEq] at ho
      subst ho
      obtain rfl := F33 (hd ⟨33, .data⟩ (by simp) rfl)
      obtain rfl := F34 (hd ⟨34, .data⟩ (by simp) rfl)
      obtain rfl := F28 (hd ⟨28, .guard⟩ (by simp) rfl)
      rcases HV.out with ⟨rfl, rfl, rfl⟩ | ⟨hne, rfl⟩ | ⟨rfl, hne, rfl⟩
      all_goals
        refine wpOp_step rfl (fun K hK => ?_)
        go_simp
        refine hK _ _ ?_
        exact ⟨_, _, _, _, _, _, _, _, _, _, _, _, _, _, _, _, _, _, _, _, _, _, _, _, _, _, _, _, _, _, _, _, _, _, _, _, _, _, rfl, fun h => F0 (ls (by decide) h), fun h => F1 (ls (by decide) h), fun h => F2 (ls (by decide) h), fun h => F3 (ls (by decide) h), fun h => F4 (ls (by decide) h), fun h => F5 (ls (by decide) h), fun h => F6 (ls (by decide) h), fun h => F7 (ls (by decide) h), fun h => F8 (ls (by decide) h), fun h => F9 (ls (by decide) h), fun h => F10 (ls (by decide) h), fun h => F11 (ls (by decide) h), fun h => F12 (ls (by decide) h), fun h => F13 (ls (by decide) h), fun h => F14 (ls (by decide) h), fun h => F15 (ls (by decide) h), fun h => F16 (ls (by decide) h), fun h => F17 (ls (by decide) h), fun h => F18 (ls (by decide) h), fun h => F19 (ls (by decide) h), fun h => F20 (ls (by decide) h), fun h => F21 (ls (by decide) h), fun h => F22 (ls (by decide) h), fun h => F23 (ls (by decide) h), fun h => F24 (ls (by decide) h), fun h => F25 (ls (by decide) h), fun h => F26 (ls (by decide) h), fun h => F27 (ls (by decide) h), fun h => F28 (ls (by decide) h), fun h => F29 (ls (by decide) h), fun h => F30 (ls (by decide) h), fun h => F31 (ls (by decide) h), fun h => F32 (ls (by decide) h), fun h => F33 (ls (by decide) h), fun h => F34 (ls (by decide) h), fun _ => rfl, fun h => F36 (ls (by decide) h), fun h => F37 (ls (by decide) h), F38, F39, F40, F41, F42, F43, F44⟩
    · simp only [List.getElem?_toArray, List.getElem?_cons_zero, List.getElem?_cons_succ, Option.some.injEq] at ho
      subst ho
      obtain rfl := F32 (hd ⟨32, .data⟩ (by simp) rfl)
      obtain rfl := F35 (hd ⟨35, .data⟩ (by simp) rfl)
      obtain rfl := F28 (hd ⟨28, .guard⟩ (by simp) rfl)
      refine wpOp_step rfl (fun K hK => ?_)
      go_simp
      refine hK _ _ ?_
      exact ⟨_, _, _, _, _, _, _, _, _, _, _, _, _, _, _, _, _, _, _, _, _, _, _, _, _, _, _, _, _, _, _, _, _, _, _, _, _, _, rfl, fun h => F0 (ls (by decide) h), fun h => F1 (ls (by decide) h), fun h => F2 (ls (by decide) h), fun h => F3 (ls (by decide) h), fun h => F4 (ls (by decide) h), fun h => F5 (ls (by decide) h), fun h => F6 (ls (by decide) h), fun h => F7 (ls (by decide) h), fun h => F8 (ls (by decide) h), fun h => F9 (ls (by decide) h), fun h => F10 (ls (by decide) h), fun h => F11 (ls (by decide) h), fun h => F12 (ls (by decide) h), fun h => F13 (ls (by decide) h), fun h => F14 (ls (by decide) h), fun h => F15 (ls (by decide) h), fun h => F16 (ls (by decide) h), fun h => F17 (ls (by decide) h), fun h => F18 (ls (by decide) h), fun h => F19 (ls (by decide) h), fun h => F20 (ls (by decide) h), fun h => F21 (ls (by decide) h), fun h => F22 (ls (by decide) h), fun h => F23 (ls (by decide) h), fun h => F24 (ls (by decide) h), fun h => F25 (ls (by decide) h), fun h => F26 (ls (by decide) h), fun h => F27 (ls (by decide) h), fun h => F28 (ls (by decide) h), fun h => F29 (ls (by decide) h), fun h => F30 (ls (by decide) h), fun h => F31 (ls (by decide) h), fun h => F32 (ls (by decide) h), fun h => F33 (ls (by decide) h), fun h => F34 (ls (by decide) h), fun h => F35 (ls (by decide) h), fun _ => rfl, fun h => F37 (ls (by decide) h), F38, F39, F40, F41, F42, F43, F44⟩
    · simp only [List.getElem?_toArray, List.getElem?_cons_zero, List.getElem?_cons_succ, Option.some.injEq] at ho
      subst ho
      obtain rfl := F28 (hd ⟨28, .data⟩ (by simp) rfl)
      obtain rfl := F36 (hd ⟨36, .data⟩ (by simp) rfl)
      refine wpOp_step rfl (fun K hK => ?_)
      go_simp
      refine hK _ _ ?_
      exact ⟨_, _, _, _, _, _, _, _, _, _, _, _, _, _, _, _, _, _, _, _, _, _, _, _, _, _, _, _, _, _, _, _, _, _, _, _, _, _, rfl, fun h => F0 (ls (by decide) h), fun h => F1 (ls (by decide) h), fun h => F2 (ls (by decide) h), fun h => F3 (ls (by decide) h), fun h => F4 (ls (by decide) h), fun h => F5 (ls (by decide) h), fun h => F6 (ls (by decide) h), fun h => F7 (ls (by decide) h), fun h => F8 (ls (by decide) h), fun h => F9 (ls (by decide) h), fun h => F10 (ls (by decide) h), fun h => F11 (ls (by decide) h), fun h => F12 (ls (by decide) h), fun h => F13 (ls (by decide) h), fun h => F14 (ls (by decide) h), fun h => F15 (ls (by decide) h), fun h => F16 (ls (by decide) h), fun h => F17 (ls (by decide) h), fun h => F18 (ls (by decide) h), fun h => F19 (ls (by decide) h), fun h => F20 (ls (by decide) h), fun h => F21 (ls (by decide) h), fun h => F22 (ls (by decide) h), fun h => F23 (ls (by decide) h), fun h => F24 (ls (by decide) h), fun h => F25 (ls (by decide) h), fun h => F26 (ls (by decide) h), fun h => F27 (ls (by decide) h), fun h => F28 (ls (by decide) h), fun h => F29 (ls (by decide) h), fun h => F30 (ls (by decide) h), fun h => F31 (ls (by decide) h), fun h => F32 (ls (by decide) h), fun h => F33 (ls (by decide) h), fun h => F34 (ls (by decide) h), fun h => F35 (ls (by decide) h), fun h => F36 (ls (by decide) h), fun _ => rfl, F38, F39, F40, F41, F42, F43, F44⟩
  · intro listed A w hall hI
    obtain ⟨s62, s63, s64, s65, s66, s67, s68, s69, s70, s71, s72, s73, s74, s75, s76, s77, s78, s79, s80, s81, s82, s83, s84, s85, s86, s87, s88, s89, s90, s91, s92, s93, s94, s95, s96, s97, s98, s99, rfl, F0, F1, F2, F3, F4, F5, F6, F7, F8, F9, F10, F11, F12, F13, F14, F15, F16, F17, F18, F19, F20, F21, F22, F23, F24, F25, F26, F27, F28, F29, F30, F31, F32, F33, F34, F35, F36, F37, F38, F39, F40, F41, F42, F43, F44⟩ := hI
    obtain rfl := F0 (hall 0 (by decide))
    obtain rfl := F1 (hall 1 (by decide))
    obtain rfl := F2 (hall 2 (by decide))
    obtain rfl := F3 (hall 3 (by decide))
    obtain rfl := F4 (hall 4 (by decide))
    obtain rfl := F5 (hall 5 (by decide))
    obtain rfl := F6 (hall 6 (by decide))
    obtain rfl := F7 (hall 7 (by decide))
    obtain rfl := F8 (hall 8 (by decide))
    obtain rfl := F9 (hall 9 (by decide))
    obtain rfl := F10 (hall 10 (by decide))
    obtain rfl := F11 (hall 11 (by decide))
    obtain rfl := F12 (hall 12 (by decide))
    obtain rfl := F13 (hall 13 (by decide))
    obtain rfl := F14 (hall 14 (by decide))
    obtain rfl := F15 (hall 15 (by decide))
    obtain rfl := F16 (hall 16 (by decide))
    obtain rfl := F17 (hall 17 (by decide))
    obtain rfl := F18 (hall 18 (by decide))
    obtain rfl := F19 (hall 19 (by decide))
    obtain rfl := F20 (hall 20 (by decide))
    obtain rfl := F21 (hall 21 (by decide))
    obtain rfl := F22 (hall 22 (by decide))
    obtain rfl := F23 (hall 23 (by decide))
    obtain rfl := F24 (hall 24 (by decide))
    obtain rfl := F25 (hall 25 (by decide))
    obtain rfl := F26 (hall 26 (by decide))
    obtain rfl := F27 (hall 27 (by decide))
    obtain rfl := F28 (hall 28 (by decide))
    obtain rfl := F29 (hall 29 (by decide))
    obtain rfl := F30 (hall 30 (by decide))
    obtain rfl := F31 (hall 31 (by decide))
    obtain rfl := F32 (hall 32 (by decide))
    obtain rfl := F33 (hall 33 (by decide))
    obtain rfl := F34 (hall 34 (by decide))
    obtain rfl := F35 (hall 35 (by decide))
    obtain rfl := F36 (hall 36 (by decide))
    obtain rfl := F37 (hall 37 (by decide))
    have HB := F38
    have B0 := F39
    have B1 := F40
    have B2 := F41
    have B3 := F42
    have B4 := F43
    have B5 := F44
    clear hall F38 F39 F40 F41 F42 F43 F44 F0 F1 F2 F3 F4 F5 F6 F7 F8 F9 F10 F11 F12 F13 F14 F15 F16 F17 F18 F19 F20 F21 F22 F23 F24 F25 F26 F27 F28 F29 F30 F31 F32 F33 F34 F35 F36 F37
    try dsimp only

    clear wy hc HC WY HV
    have hS := HHS.out; have hT := HHT.out
    clear HHS HHT
    rcases hS with hde | ⟨rfl, A3⟩
    · have A8 := B0; have B8 := B1
      clear B0 B1 B2 B3 B4 B5
      obtain ⟨A8a, A8b, A8c, A8d⟩ := id A8
      obtain ⟨B8a, B8b, B8c, B8d⟩ := id B8
      have A8l := A8.lt; have B8l := B8.lt
      go_wp2_with fail
      go_at_call 19; refine (S.out.call _).mono ?_; rintro e w9 ⟨rfl, hb9⟩
      have A9 : Own w9 (w0.heap.size) (.int .i64 n1) (.int .i64 k1) := by first | exact A8.call hb9 | exact (A8.alloc _).call hb9 | exact ((A8.alloc _).alloc _).call hb9
      have B9 : Own w9 (w0.heap.size + 1) (.int .i64 n2) (.int .i64 k2) := by first | exact B8.call hb9 | exact (B8.alloc _).call hb9 | exact ((B8.alloc _).alloc _).call hb9
      try clear A8a A8b A8c A8d A8l B8a B8b B8c B8d B8l
      obtain ⟨A9a, A9b, A9c, A9d⟩ := id A9
      have A9l := A9.lt
      obtain ⟨B9a, B9b, B9c, B9d⟩ := id B9
      have B9l := B9.lt
      go_wp2_with fail
      go_at_call 22; refine (I.out.call _).mono ?_; rintro e w10 ⟨rfl, hb10⟩
      have A10 : Own w10 (w0.heap.size) (.int .i64 n1) (.int .i64 k1) := by first | exact A9.call hb10 | exact (A9.alloc _).call hb10 | exact ((A9.alloc _).alloc _).call hb10
      have B10 : Own w10 (w0.heap.size + 1) (.int .i64 n2) (.int .i64 k2) := by first | exact B9.call hb10 | exact (B9.alloc _).call hb10 | exact ((B9.alloc _).alloc _).call hb10
      try clear A9a A9b A9c A9d A9l B9a B9b B9c B9d B9l
      obtain ⟨A10a, A10b, A10c, A10d⟩ := id A10
      have A10l := A10.lt
      obtain ⟨B10a, B10b, B10c, B10d⟩ := id B10
      have B10l := B10.lt
      go_wp2_with fail
      go_at_call 23; refine (Mo.out.call _).mono ?_; rintro e w11 ⟨rfl, hb11⟩
      have A11 : Own w11 (w0.heap.size) (.int .i64 n1) (.int .i64 k1) := by first | exact A10.call hb11 | exact (A10.alloc _).call hb11 | exact ((A10.alloc _).alloc _).call hb11
      have B11 : Own w11 (w0.heap.size + 1) (.int .i64 n2) (.int .i64 k2) := by first | exact B10.call hb11 | exact (B10.alloc _).call hb11 | exact ((B10.alloc _).alloc _).call hb11
      have U11 : Own w11 (w10.heap.size) (.int .i64 qn) (.int .i64 qk) := by first | exact (Own.new_at (by simp) : Own (w10.alloc _) w10.heap.size _ _).call hb11 | exact ((Own.new_at (by simp) : Own (w10.alloc _) w10.heap.size _ _).alloc _).call hb11 | exact (((Own.new_at (by simp) : Own (w10.alloc _) w10.heap.size _ _).alloc _).alloc _).call hb11
      try clear A10a A10b A10c A10d A10l B10a B10b B10c B10d B10l
      obtain ⟨A11a, A11b, A11c, A11d⟩ := id A11
      have A11l := A11.lt
      obtain ⟨B11a, B11b, B11c, B11d⟩ := id B11
      have B11l := B11.lt
      obtain ⟨U11a, U11b, U11c, U11d⟩ := id U11
      have U11l := U11.lt
      rcases hT with ⟨rfl, rfl, rfl⟩ | ⟨hm0, rfl, hr, hq⟩
      · go_wp2
        go_ret
        exact ⟨rfl, by repeat (first | exact Below.refl _ _ | apply ba | apply bd | apply bdr | (refine bs ?_ (by first | (simp; done) | (simp; omega))) | (refine bt ?_ (by assumption)))⟩
      · rcases hr with rfl | ⟨hr0, hrs⟩
        all_goals rcases hq with rfl | ⟨rfl, rfl, Pm, hp⟩
        · go_wp2
          go_ret
          exact ⟨rfl, by repeat (first | exact Below.refl _ _ | apply ba | apply bd | apply bdr | (refine bs ?_ (by first | (simp; done) | (simp; omega))) | (refine bt ?_ (by assumption)))⟩
        · go_wp2_with fail
          go_at_call 20; refine (Pm.out.call _).mono ?_; rintro e w12 ⟨rfl, hb12⟩
          have A12 : Own w12 (w0.heap.size) (.int .i64 n1) (.int .i64 k1) := by first | exact A11.call hb12 | exact (A11.alloc _).call hb12 | exact ((A11.alloc _).alloc _).call hb12
          have B12 : Own w12 (w0.heap.size + 1) (.int .i64 n2) (.int .i64 k2) := by first | exact B11.call hb12 | exact (B11.alloc _).call hb12 | exact ((B11.alloc _).alloc _).call hb12
          have U12 : Own w12 (w10.heap.size) (.int .i64 qn) (.int .i64 0) := by first | exact U11.call hb12 | exact (U11.alloc _).call hb12 | exact ((U11.alloc _).alloc _).call hb12
          have V12 : Own w12 (w11.heap.size) (.int .i64 0) (.int .i64 rk) := by first | exact (Own.new_at (by simp) : Own (w11.alloc _) w11.heap.size _ _).call hb12 | exact ((Own.new_at (by simp) : Own (w11.alloc _) w11.heap.size _ _).alloc _).call hb12 | exact (((Own.new_at (by simp) : Own (w11.alloc _) w11.heap.size _ _).alloc _).alloc _).call hb12
          try clear A11a A11b A11c A11d A11l B11a B11b B11c B11d B11l U11a U11b U11c U11d U11l
          obtain ⟨A12a, A12b, A12c, A12d⟩ := id A12
          have A12l := A12.lt
          obtain ⟨B12a, B12b, B12c, B12d⟩ := id B12
          have B12l := B12.lt
          obtain ⟨U12a, U12b, U12c, U12d⟩ := id U12
          have U12l := U12.lt
          obtain ⟨V12a, V12b, V12c, V12d⟩ := id V12
          have V12l := V12.lt
          rcases hp with rfl | ⟨rfl, A4⟩
          · go_wp2
            go_ret
            exact ⟨rfl, by repeat (first | exact Below.refl _ _ | apply ba | apply bd | apply bdr | (refine bs ?_ (by first | (simp; done) | (simp; omega))) | (refine bt ?_ (by assumption)))⟩
          · go_wp2_with fail
            go_at_call 18; refine (A4.out.call _).mono ?_; rintro e w13 ⟨rfl, hb13⟩
            have A13 : Own w13 (w0.heap.size) (.int .i64 n1) (.int .i64 k1) := by first | exact A12.call hb13 | exact (A12.alloc _).call hb13 | exact ((A12.alloc _).alloc _).call hb13
            have B13 : Own w13 (w0.heap.size + 1) (.int .i64 n2) (.int .i64 k2) := by first | exact B12.call hb13 | exact (B12.alloc _).call hb13 | exact ((B12.alloc _).alloc _).call hb13
            have U13 : Own w13 (w10.heap.size) (.int .i64 qn) (.int .i64 0) := by first | exact U12.call hb13 | exact (U12.alloc _).call hb13 | exact ((U12.alloc _).alloc _).call hb13
            have V13 : Own w13 (w11.heap.size) (.int .i64 0) (.int .i64 rk) := by first | exact V12.call hb13 | exact (V12.alloc _).call hb13 | exact ((V12.alloc _).alloc _).call hb13
            have Y13 : Own w13 (w12.heap.size) (.int .i64 pn) (.int .i64 pk) := by first | exact (Own.new_at (by simp) : Own (w12.alloc _) w12.heap.size _ _).call hb13 | exact ((Own.new_at (by simp) : Own (w12.alloc _) w12.heap.size _ _).alloc _).call hb13 | exact (((Own.new_at (by simp) : Own (w12.alloc _) w12.heap.size _ _).alloc _).alloc _).call hb13
            try clear A12a A12b A12c A12d A12l B12a B12b B12c B12d B12l U12a U12b U12c U12d U12l V12a V12b V12c V12d V12l
            obtain ⟨A13a, A13b, A13c, A13d⟩ := id A13
            have A13l := A13.lt
            obtain ⟨B13a, B13b, B13c, B13d⟩ := id B13
            have B13l := B13.lt
            obtain ⟨U13a, U13b, U13c, U13d⟩ := id U13
            have U13l := U13.lt
            obtain ⟨V13a, V13b, V13c, V13d⟩ := id V13
            have V13l := V13.lt
            go_wp2
            go_ret
            exact ⟨rfl, by repeat (first | exact Below.refl _ _ | apply ba | apply bd | apply bdr | (refine bs ?_ (by first | (simp; done) | (simp; omega))) | (refine bt ?_ (by assumption)))⟩
        · go_wp2
          go_ret
          exact ⟨rfl, by repeat (first | exact Below.refl _ _ | apply ba | apply bd | apply bdr | (refine bs ?_ (by first | (simp; done) | (simp; omega))) | (refine bt ?_ (by assumption)))⟩
        · go_wp2_with fail
          go_at_call 20; refine (Pm.out.call _).mono ?_; rintro e w12 ⟨rfl, hb12⟩
          have A12 : Own w12 (w0.heap.size) (.int .i64 n1) (.int .i64 k1) := by first | exact A11.call hb12 | exact (A11.alloc _).call hb12 | exact ((A11.alloc _).alloc _).call hb12
          have B12 : Own w12 (w0.heap.size + 1) (.int .i64 n2) (.int .i64 k2) := by first | exact B11.call hb12 | exact (B11.alloc _).call hb12 | exact ((B11.alloc _).alloc _).call hb12
          have U12 : Own w12 (w10.heap.size) (.int .i64 qn) (.int .i64 0) := by first | exact U11.call hb12 | exact (U11.alloc _).call hb12 | exact ((U11.alloc _).alloc _).call hb12
          have V12 : Own w12 (w11.heap.size) (.int .i64 rn) (.int .i64 rk) := by first | exact (Own.new_at (by simp) : Own (w11.alloc _) w11.heap.size _ _).call hb12 | exact ((Own.new_at (by simp) : Own (w11.alloc _) w11.heap.size _ _).alloc _).call hb12 | exact (((Own.new_at (by simp) : Own (w11.alloc _) w11.heap.size _ _).alloc _).alloc _).call hb12
          try clear A11a A11b A11c A11d A11l B11a B11b B11c B11d B11l U11a U11b U11c U11d U11l
          obtain ⟨A12a, A12b, A12c, A12d⟩ := id A12
          have A12l := A12.lt
          obtain ⟨B12a, B12b, B12c, B12d⟩ := id B12
          have B12l := B12.lt
          obtain ⟨U12a, U12b, U12c, U12d⟩ := id U12
          have U12l := U12.lt
          obtain ⟨V12a, V12b, V12c, V12d⟩ := id V12
          have V12l := V12.lt
          rcases hp with rfl | ⟨rfl, A4⟩
          · go_wp2
            go_ret
            exact ⟨rfl, by repeat (first | exact Below.refl _ _ | apply ba | apply bd | apply bdr | (refine bs ?_ (by first | (simp; done) | (simp; omega))) | (refine bt ?_ (by assumption)))⟩
          · go_wp2_with fail
            go_at_call 18; refine (A4.out.call _).mono ?_; rintro e w13 ⟨rfl, hb13⟩
            have A13 : Own w13 (w0.heap.size) (.int .i64 n1) (.int .i64 k1) := by first | exact A12.call hb13 | exact (A12.alloc _).call hb13 | exact ((A12.alloc _).alloc _).call hb13
            have B13 : Own w13 (w0.heap.size + 1) (.int .i64 n2) (.int .i64 k2) := by first | exact B12.call hb13 | exact (B12.alloc _).call hb13 | exact ((B12.alloc _).alloc _).call hb13
            have U13 : Own w13 (w10.heap.size) (.int .i64 qn) (.int .i64 0) := by first | exact U12.call hb13 | exact (U12.alloc _).call hb13 | exact ((U12.alloc _).alloc _).call hb13
            have V13 : Own w13 (w11.heap.size) (.int .i64 rn) (.int .i64 rk) := by first | exact V12.call hb13 | exact (V12.alloc _).call hb13 | exact ((V12.alloc _).alloc _).call hb13
            have Y13 : Own w13 (w12.heap.size) (.int .i64 pn) (.int .i64 pk) := by first | exact (Own.new_at (by simp) : Own (w12.alloc _) w12.heap.size _ _).call hb13 | exact ((Own.new_at (by simp) : Own (w12.alloc _) w12.heap.size _ _).alloc _).call hb13 | exact (((Own.new_at (by simp) : Own (w12.alloc _) w12.heap.size _ _).alloc _).alloc _).call hb13
            try clear A12a A12b A12c A12d A12l B12a B12b B12c B12d B12l U12a U12b U12c U12d U12l V12a V12b V12c V12d V12l
            obtain ⟨A13a, A13b, A13c, A13d⟩ := id A13
            have A13l := A13.lt
            obtain ⟨B13a, B13b, B13c, B13d⟩ := id B13
            have B13l := B13.lt
            obtain ⟨U13a, U13b, U13c, U13d⟩ := id U13
            have U13l := U13.lt
            obtain ⟨V13a, V13b, V13c, V13d⟩ := id V13
            have V13l := V13.lt
            go_wp2
            go_ret
            exact ⟨rfl, by repeat (first | exact Below.refl _ _ | apply ba | apply bd | apply bdr | (refine bs ?_ (by first | (simp; done) | (simp; omega))) | (refine bt ?_ (by assumption)))⟩
    · have A8 := B0; have B8 := B1
      clear B0 B1 B2 B3 B4 B5
      obtain ⟨A8a, A8b, A8c, A8d⟩ := id A8
      obtain ⟨B8a, B8b, B8c, B8d⟩ := id B8
      have A8l := A8.lt; have B8l := B8.lt
      go_wp2_with fail
      go_at_call 19; refine (S.out.call _).mono ?_; rintro e w9 ⟨rfl, hb9⟩
      have A9 : Own w9 (w0.heap.size) (.int .i64 n1) (.int .i64 k1) := by first | exact A8.call hb9 | exact (A8.alloc _).call hb9 | exact ((A8.alloc _).alloc _).call hb9
      have B9 : Own w9 (w0.heap.size + 1) (.int .i64 n2) (.int .i64 k2) := by first | exact B8.call hb9 | exact (B8.alloc _).call hb9 | exact ((B8.alloc _).alloc _).call hb9
      try clear A8a A8b A8c A8d A8l B8a B8b B8c B8d B8l
      obtain ⟨A9a, A9b, A9c, A9d⟩ := id A9
      have A9l := A9.lt
      obtain ⟨B9a, B9b, B9c, B9d⟩ := id B9
      have B9l := B9.lt
      go_wp2_with fail
      go_at_call 18; refine (A3.out.call _).mono ?_; rintro e w10 ⟨rfl, hb10⟩
      have A10 : Own w10 (w0.heap.size) (.int .i64 n1) (.int .i64 k1) := by first | exact A9.call hb10 | exact (A9.alloc _).call hb10 | exact ((A9.alloc _).alloc _).call hb10
      have B10 : Own w10 (w0.heap.size + 1) (.int .i64 n2) (.int .i64 k2) := by first | exact B9.call hb10 | exact (B9.alloc _).call hb10 | exact ((B9.alloc _).alloc _).call hb10
      try clear A9a A9b A9c A9d A9l B9a B9b B9c B9d B9l
      obtain ⟨A10a, A10b, A10c, A10d⟩ := id A10
      have A10l := A10.lt
      obtain ⟨B10a, B10b, B10c, B10d⟩ := id B10
      have B10l := B10.lt
      go_wp2_with fail
      go_at_call 22; refine (I.out.call _).mono ?_; rintro e w11 ⟨rfl, hb11⟩
      have A11 : Own w11 (w0.heap.size) (.int .i64 n1) (.int .i64 k1) := by first | exact A10.call hb11 | exact (A10.alloc _).call hb11 | exact ((A10.alloc _).alloc _).call hb11
      have B11 : Own w11 (w0.heap.size + 1) (.int .i64 n2) (.int .i64 k2) := by first | exact B10.call hb11 | exact (B10.alloc _).call hb11 | exact ((B10.alloc _).alloc _).call hb11
      try clear A10a A10b A10c A10d A10l B10a B10b B10c B10d B10l
      obtain ⟨A11a, A11b, A11c, A11d⟩ := id A11
      have A11l := A11.lt
      obtain ⟨B11a, B11b, B11c, B11d⟩ := id B11
      have B11l := B11.lt
      go_wp2_with fail
      go_at_call 23; refine (Mo.out.call _).mono ?_; rintro e w12 ⟨rfl, hb12⟩
      have A12 : Own w12 (w0.heap.size) (.int .i64 n1) (.int .i64 k1) := by first | exact A11.call hb12 | exact (A11.alloc _).call hb12 | exact ((A11.alloc _).alloc _).call hb12
      have B12 : Own w12 (w0.heap.size + 1) (.int .i64 n2) (.int .i64 k2) := by first | exact B11.call hb12 | exact (B11.alloc _).call hb12 | exact ((B11.alloc _).alloc _).call hb12
      have U12 : Own w12 (w11.heap.size) (.int .i64 qn) (.int .i64 qk) := by first | exact (Own.new_at (by simp) : Own (w11.alloc _) w11.heap.size _ _).call hb12 | exact ((Own.new_at (by simp) : Own (w11.alloc _) w11.heap.size _ _).alloc _).call hb12 | exact (((Own.new_at (by simp) : Own (w11.alloc _) w11.heap.size _ _).alloc _).alloc _).call hb12
      try clear A11a A11b A11c A11d A11l B11a B11b B11c B11d B11l
      obtain ⟨A12a, A12b, A12c, A12d⟩ := id A12
      have A12l := A12.lt
      obtain ⟨B12a, B12b, B12c, B12d⟩ := id B12
      have B12l := B12.lt
      obtain ⟨U12a, U12b, U12c, U12d⟩ := id U12
      have U12l := U12.lt
      rcases hT with ⟨rfl, rfl, rfl⟩ | ⟨hm0, rfl, hr, hq⟩
      · go_wp2
        go_ret
        exact ⟨rfl, by repeat (first | exact Below.refl _ _ | apply ba | apply bd | apply bdr | (refine bs ?_ (by first | (simp; done) | (simp; omega))) | (refine bt ?_ (by assumption)))⟩
      · rcases hr with rfl | ⟨hr0, hrs⟩
        all_goals rcases hq with rfl | ⟨rfl, rfl, Pm, hp⟩
        · go_wp2
          go_ret
          exact ⟨rfl, by repeat (first | exact Below.refl _ _ | apply ba | apply bd | apply bdr | (refine bs ?_ (by first | (simp; done) | (simp; omega))) | (refine bt ?_ (by assumption)))⟩
        · go_wp2_with fail
          go_at_call 20; refine (Pm.out.call _).mono ?_; rintro e w13 ⟨rfl, hb13⟩
          have A13 : Own w13 (w0.heap.size) (.int .i64 n1) (.int .i64 k1) := by first | exact A12.call hb13 | exact (A12.alloc _).call hb13 | exact ((A12.alloc _).alloc _).call hb13
          have B13 : Own w13 (w0.heap.size + 1) (.int .i64 n2) (.int .i64 k2) := by first | exact B12.call hb13 | exact (B12.alloc _).call hb13 | exact ((B12.alloc _).alloc _).call hb13
          have U13 : Own w13 (w11.heap.size) (.int .i64 qn) (.int .i64 0) := by first | exact U12.call hb13 | exact (U12.alloc _).call hb13 | exact ((U12.alloc _).alloc _).call hb13
          have V13 : Own w13 (w12.heap.size) (.int .i64 0) (.int .i64 rk) := by first | exact (Own.new_at (by simp) : Own (w12.alloc _) w12.heap.size _ _).call hb13 | exact ((Own.new_at (by simp) : Own (w12.alloc _) w12.heap.size _ _).alloc _).call hb13 | exact (((Own.new_at (by simp) : Own (w12.alloc _) w12.heap.size _ _).alloc _).alloc _).call hb13
          try clear A12a A12b A12c A12d A12l B12a B12b B12c B12d B12l U12a U12b U12c U12d U12l
          obtain ⟨A13a, A13b, A13c, A13d⟩ := id A13
          have A13l := A13.lt
          obtain ⟨B13a, B13b, B13c, B13d⟩ := id B13
          have B13l := B13.lt
          obtain ⟨U13a, U13b, U13c, U13d⟩ := id U13
          have U13l := U13.lt
          obtain ⟨V13a, V13b, V13c, V13d⟩ := id V13
          have V13l := V13.lt
          rcases hp with rfl | ⟨rfl, A4⟩
          · go_wp2
            go_ret
            exact ⟨rfl, by repeat (first | exact Below.refl _ _ | apply ba | apply bd | apply bdr | (refine bs ?_ (by first | (simp; done) | (simp; omega))) | (refine bt ?_ (by assumption)))⟩
          · go_wp2_with fail
            go_at_call 18; refine (A4.out.call _).mono ?_; rintro e w14 ⟨rfl, hb14⟩
            have A14 : Own w14 (w0.heap.size) (.int .i64 n1) (.int .i64 k1) := by first | exact A13.call hb14 | exact (A13.alloc _).call hb14 | exact ((A13.alloc _).alloc _).call hb14
            have B14 : Own w14 (w0.heap.size + 1) (.int .i64 n2) (.int .i64 k2) := by first | exact B13.call hb14 | exact (B13.alloc _).call hb14 | exact ((B13.alloc _).alloc _).call hb14
            have U14 : Own w14 (w11.heap.size) (.int .i64 qn) (.int .i64 0) := by first | exact U13.call hb14 | exact (U13.alloc _).call hb14 | exact ((U13.alloc _).alloc _).call hb14
            have V14 : Own w14 (w12.heap.size) (.int .i64 0) (.int .i64 rk) := by first | exact V13.call hb14 | exact (V13.alloc _).call hb14 | exact ((V13.alloc _).alloc _).call hb14
            have Y14 : Own w14 (w13.heap.size) (.int .i64 pn) (.int .i64 pk) := by first | exact (Own.new_at (by simp) : Own (w13.alloc _) w13.heap.size _ _).call hb14 | exact ((Own.new_at (by simp) : Own (w13.alloc _) w13.heap.size _ _).alloc _).call hb14 | exact (((Own.new_at (by simp) : Own (w13.alloc _) w13.heap.size _ _).alloc _).alloc _).call hb14
            try clear A13a A13b A13c A13d A13l B13a B13b B13c B13d B13l U13a U13b U13c U13d U13l V13a V13b V13c V13d V13l
            obtain ⟨A14a, A14b, A14c, A14d⟩ := id A14
            have A14l := A14.lt
            obtain ⟨B14a, B14b, B14c, B14d⟩ := id B14
            have B14l := B14.lt
            obtain ⟨U14a, U14b, U14c, U14d⟩ := id U14
            have U14l := U14.lt
            obtain ⟨V14a, V14b, V14c, V14d⟩ := id V14
            have V14l := V14.lt
            go_wp2
            go_ret
            exact ⟨rfl, by repeat (first | exact Below.refl _ _ | apply ba | apply bd | apply bdr | (refine bs ?_ (by first | (simp; done) | (simp; omega))) | (refine bt ?_ (by assumption)))⟩
        · go_wp2
          go_ret
          exact ⟨rfl, by repeat (first | exact Below.refl _ _ | apply ba | apply bd | apply bdr | (refine bs ?_ (by first | (simp; done) | (simp; omega))) | (refine bt ?_ (by assumption)))⟩
        · go_wp2_with fail
          go_at_call 20; refine (Pm.out.call _).mono ?_; rintro e w13 ⟨rfl, hb13⟩
          have A13 : Own w13 (w0.heap.size) (.int .i64 n1) (.int .i64 k1) := by first | exact A12.call hb13 | exact (A12.alloc _).call hb13 | exact ((A12.alloc _).alloc _).call hb13
          have B13 : Own w13 (w0.heap.size + 1) (.int .i64 n2) (.int .i64 k2) := by first | exact B12.call hb13 | exact (B12.alloc _).call hb13 | exact ((B12.alloc _).alloc _).call hb13
          have U13 : Own w13 (w11.heap.size) (.int .i64 qn) (.int .i64 0) := by first | exact U12.call hb13 | exact (U12.alloc _).call hb13 | exact ((U12.alloc _).alloc _).call hb13
          have V13 : Own w13 (w12.heap.size) (.int .i64 rn) (.int .i64 rk) := by first | exact (Own.new_at (by simp) : Own (w12.alloc _) w12.heap.size _ _).call hb13 | exact ((Own.new_at (by simp) : Own (w12.alloc _) w12.heap.size _ _).alloc _).call hb13 | exact (((Own.new_at (by simp) : Own (w12.alloc _) w12.heap.size _ _).alloc _).alloc _).call hb13
          try clear A12a A12b A12c A12d A12l B12a B12b B12c B12d B12l U12a U12b U12c U12d U12l
          obtain ⟨A13a, A13b, A13c, A13d⟩ := id A13
          have A13l := A13.lt
          obtain ⟨B13a, B13b, B13c, B13d⟩ := id B13
          have B13l := B13.lt
          obtain ⟨U13a, U13b, U13c, U13d⟩ := id U13
          have U13l := U13.lt
          obtain ⟨V13a, V13b, V13c, V13d⟩ := id V13
          have V13l := V13.lt
          rcases hp with rfl | ⟨rfl, A4⟩
          · go_wp2
            go_ret
            exact ⟨rfl, by repeat (first | exact Below.refl _ _ | apply ba | apply bd | apply bdr | (refine bs ?_ (by first | (simp; done) | (simp; omega))) | (refine bt ?_ (by assumption)))⟩
          · go_wp2_with fail
            go_at_call 18; refine (A4.out.call _).mono ?_; rintro e w14 ⟨rfl, hb14⟩
            have A14 : Own w14 (w0.heap.size) (.int .i64 n1) (.int .i64 k1) := by first | exact A13.call hb14 | exact (A13.alloc _).call hb14 | exact ((A13.alloc _).alloc _).call hb14
            have B14 : Own w14 (w0.heap.size + 1) (.int .i64 n2) (.int .i64 k2) := by first | exact B13.call hb14 | exact (B13.alloc _).call hb14 | exact ((B13.alloc _).alloc _).call hb14
            have U14 : Own w14 (w11.heap.size) (.int .i64 qn) (.int .i64 0) := by first | exact U13.call hb14 | exact (U13.alloc _).call hb14 | exact ((U13.alloc _).alloc _).call hb14
            have V14 : Own w14 (w12.heap.size) (.int .i64 rn) (.int .i64 rk) := by first | exact V13.call hb14 | exact (V13.alloc _).call hb14 | exact ((V13.alloc _).alloc _).call hb14
            have Y14 : Own w14 (w13.heap.size) (.int .i64 pn) (.int .i64 pk) := by first | exact (Own.new_at (by simp) : Own (w13.alloc _) w13.heap.size _ _).call hb14 | exact ((Own.new_at (by simp) : Own (w13.alloc _) w13.heap.size _ _).alloc _).call hb14 | exact (((Own.new_at (by simp) : Own (w13.alloc _) w13.heap.size _ _).alloc _).alloc _).call hb14
            try clear A13a A13b A13c A13d A13l B13a B13b B13c B13d B13l U13a U13b U13c U13d U13l V13a V13b V13c V13d V13l
            obtain ⟨A14a, A14b, A14c, A14d⟩ := id A14
            have A14l := A14.lt
            obtain ⟨B14a, B14b, B14c, B14d⟩ := id B14
            have B14l := B14.lt
            obtain ⟨U14a, U14b, U14c, U14d⟩ := id U14
            have U14l := U14.lt
            obtain ⟨V14a, V14b, V14c, V14d⟩ := id V14
            have V14l := V14.lt
            go_wp2
            go_ret
            exact ⟨rfl, by repeat (first | exact Below.refl _ _ | apply ba | apply bd | apply bdr | (refine bs ?_ (by first | (simp; done) | (simp; omega))) | (refine bt ?_ (by assumption)))⟩

end Go.Proofs
