/- The statement DecOrders: its walk. No condition beyond what the theorems state. -/
import Derived.Test.YtmggffhecopgiaaDoorLawMath
namespace Go.Proofs
open Go.Shelf Go.RowKit Go.Proofs.Wide
def LoI (w0 : World) (n1 k1 n2 k2 n3 k3 x y z : Int) (listed : Array Bool) (A : Act) (w : World) : Prop := ∃ (s7 s8 s9 s32 s33 s34 s35 s36 s37 s38 s39 s40 : Value), A = { tmps := #[.agg #[.int .i64 (n1), .int .i64 (k1)], .agg #[.int .i64 (n2), .int .i64 (k2)], .agg #[.int .i64 (n3), .int .i64 (k3)], .pointer (some ⟨w0.heap.size, 0, none⟩), .pointer (some ⟨w0.heap.size + 1, 0, none⟩), .pointer (some ⟨w0.heap.size + 1 + 1, 0, none⟩), .bool false, s7, s8, s9, undef, undef, undef, undef, .bool true, .bool false, .bool false, .agg #[.int .i64 (n1), .int .i64 (k1)], .bool true, .bool false, .bool false, .bool false, .agg #[.int .i64 (n2), .int .i64 (k2)], .bool true, .bool false, .bool false, .bool false, .agg #[.int .i64 (n3), .int .i64 (k3)], .bool true, .bool false, .bool false, undef, s32, s33, s34, s35, s36, s37, s38, s39, s40, undef, undef, undef, undef, undef, undef, undef, undef, undef, undef, undef, undef, undef, undef, undef, undef, undef, undef, undef, undef, undef, undef, undef, undef, undef, undef, undef, undef, undef, undef, undef, undef, undef, undef, undef, undef, undef, undef, undef, undef, undef, undef, undef, undef, undef, undef, undef], defers := [] } ∧
  (listed.getD 0 false = true → s32 = .agg #[.int .i64 (n1), .int .i64 (k1)]) ∧
  (listed.getD 1 false = true → s33 = .agg #[.int .i64 (n2), .int .i64 (k2)]) ∧
  (listed.getD 2 false = true → s34 = .int .i64 x) ∧
  (listed.getD 3 false = true → s35 = .agg #[.int .i64 (n2), .int .i64 (k2)]) ∧
  (listed.getD 4 false = true → s36 = .agg #[.int .i64 (n3), .int .i64 (k3)]) ∧
  (listed.getD 5 false = true → s37 = .int .i64 y) ∧
  (listed.getD 6 false = true → s38 = .agg #[.int .i64 (n1), .int .i64 (k1)]) ∧
  (listed.getD 7 false = true → s39 = .agg #[.int .i64 (n3), .int .i64 (k3)]) ∧
  (listed.getD 8 false = true → s40 = .int .i64 z) ∧
  (listed.getD 9 false = true → s7 = .int .i64 x) ∧
  (listed.getD 10 false = true → s8 = .int .i64 y) ∧
  (listed.getD 11 false = true → s9 = .int .i64 z) ∧
  Below w0.heap.size w0 w ∧
  Own w (w0.heap.size) (.int .i64 n1) (.int .i64 k1) ∧
  Own w (w0.heap.size + 1) (.int .i64 n2) (.int .i64 k2) ∧
  Own w (w0.heap.size + 1 + 1) (.int .i64 n3) (.int .i64 k3)

set_option maxRecDepth 100000 in
set_option maxHeartbeats 4000000 in
theorem orders_not0 (n1 k1 n2 k2 n3 k3 : Int) (w0 : World) (W : Hid (Gives 8 #[] (.bool true)))
    (R1 : Hid (Gives 10 #[.agg #[.int .i64 (n1), .int .i64 (k1)]] (.bool false))) :
    Calls Tryd.prog 7 #[nv n1 k1, nv n2 k2, nv n3 k3] w0 fun e w' => e = .returned (.bool true) ∧ Below w0.heap.size w0 w' := by
  unfold nv
  go_enter Tryd.func7, Tryd.ntmps7
  go_wp2_with fail
  go_at_call 8; refine (W.out.call _).mono ?_; rintro e w1 ⟨rfl, hb1⟩; have A1 : Own w1 w0.heap.size (.int .i64 n1) (.int .i64 k1) := (((Own.new_at (by simp)).alloc _).alloc _).call hb1; have B1 : Own w1 (w0.heap.size + 1) (.int .i64 n2) (.int .i64 k2) := ((Own.new_at (by simp)).alloc _).call hb1; have C1' : Own w1 (w0.heap.size + 1 + 1) (.int .i64 n3) (.int .i64 k3) := (Own.new_at (by simp)).call hb1; (have A := A1; obtain ⟨_, _, _, _⟩ := A); (have B := B1; obtain ⟨_, _, _, _⟩ := B); (have C := C1'; obtain ⟨_, _, _, _⟩ := C)
  go_wp2_with fail
  go_at_call 10; refine (R1.out.call _).mono ?_; rintro e w2 ⟨rfl, hb2⟩; have A2 := A1.call hb2; have B2 := B1.call hb2; have C2 := C1'.call hb2; (have A := A2; obtain ⟨_, _, _, _⟩ := A); (have B := B2; obtain ⟨_, _, _, _⟩ := B); (have C := C2; obtain ⟨_, _, _, _⟩ := C)
  go_wp2_with fail
  go_at_call 8; refine (W.out.call _).mono ?_; rintro e w9 ⟨rfl, hb9⟩
  go_wp2
  go_ret
  exact ⟨rfl, by repeat (first | exact Below.refl _ _ | apply ba | apply bd | apply bdr | (refine bs ?_ (by first | (simp; done) | (simp; omega))) | (refine bt ?_ (by assumption)))⟩

set_option maxRecDepth 100000 in
set_option maxHeartbeats 4000000 in
theorem orders_not1 (n1 k1 n2 k2 n3 k3 : Int) (w0 : World) (W : Hid (Gives 8 #[] (.bool true)))
    (R1 : Hid (Gives 10 #[.agg #[.int .i64 (n1), .int .i64 (k1)]] (.bool true)))
    (R2 : Hid (Gives 10 #[.agg #[.int .i64 (n2), .int .i64 (k2)]] (.bool false))) :
    Calls Tryd.prog 7 #[nv n1 k1, nv n2 k2, nv n3 k3] w0 fun e w' => e = .returned (.bool true) ∧ Below w0.heap.size w0 w' := by
  unfold nv
  go_enter Tryd.func7, Tryd.ntmps7
  go_wp2_with fail
  go_at_call 8; refine (W.out.call _).mono ?_; rintro e w1 ⟨rfl, hb1⟩; have A1 : Own w1 w0.heap.size (.int .i64 n1) (.int .i64 k1) := (((Own.new_at (by simp)).alloc _).alloc _).call hb1; have B1 : Own w1 (w0.heap.size + 1) (.int .i64 n2) (.int .i64 k2) := ((Own.new_at (by simp)).alloc _).call hb1; have C1' : Own w1 (w0.heap.size + 1 + 1) (.int .i64 n3) (.int .i64 k3) := (Own.new_at (by simp)).call hb1; (have A := A1; obtain ⟨_, _, _, _⟩ := A); (have B := B1; obtain ⟨_, _, _, _⟩ := B); (have C := C1'; obtain ⟨_, _, _, _⟩ := C)
  go_wp2_with fail
  go_at_call 10; refine (R1.out.call _).mono ?_; rintro e w2 ⟨rfl, hb2⟩; have A2 := A1.call hb2; have B2 := B1.call hb2; have C2 := C1'.call hb2; (have A := A2; obtain ⟨_, _, _, _⟩ := A); (have B := B2; obtain ⟨_, _, _, _⟩ := B); (have C := C2; obtain ⟨_, _, _, _⟩ := C)
  go_wp2_with fail
  go_at_call 10; refine (R2.out.call _).mono ?_; rintro e w3 ⟨rfl, hb3⟩; have A3 := A2.call hb3; have B3 := B2.call hb3; have C3 := C2.call hb3; (have A := A3; obtain ⟨_, _, _, _⟩ := A); (have B := B3; obtain ⟨_, _, _, _⟩ := B); (have C := C3; obtain ⟨_, _, _, _⟩ := C)
  go_wp2_with fail
  go_at_call 8; refine (W.out.call _).mono ?_; rintro e w9 ⟨rfl, hb9⟩
  go_wp2
  go_ret
  exact ⟨rfl, by repeat (first | exact Below.refl _ _ | apply ba | apply bd | apply bdr | (refine bs ?_ (by first | (simp; done) | (simp; omega))) | (refine bt ?_ (by assumption)))⟩

set_option maxRecDepth 100000 in
set_option maxHeartbeats 4000000 in
theorem orders_not2 (n1 k1 n2 k2 n3 k3 : Int) (w0 : World) (W : Hid (Gives 8 #[] (.bool true)))
    (R1 : Hid (Gives 10 #[.agg #[.int .i64 (n1), .int .i64 (k1)]] (.bool true)))
    (R2 : Hid (Gives 10 #[.agg #[.int .i64 (n2), .int .i64 (k2)]] (.bool true)))
    (R3 : Hid (Gives 10 #[.agg #[.int .i64 (n3), .int .i64 (k3)]] (.bool false))) :
    Calls Tryd.prog 7 #[nv n1 k1, nv n2 k2, nv n3 k3] w0 fun e w' => e = .returned (.bool true) ∧ Below w0.heap.size w0 w' := by
  unfold nv
  go_enter Tryd.func7, Tryd.ntmps7
  go_wp2_with fail
  go_at_call 8; refine (W.out.call _).mono ?_; rintro e w1 ⟨rfl, hb1⟩; have A1 : Own w1 w0.heap.size (.int .i64 n1) (.int .i64 k1) := (((Own.new_at (by simp)).alloc _).alloc _).call hb1; have B1 : Own w1 (w0.heap.size + 1) (.int .i64 n2) (.int .i64 k2) := ((Own.new_at (by simp)).alloc _).call hb1; have C1' : Own w1 (w0.heap.size + 1 + 1) (.int .i64 n3) (.int .i64 k3) := (Own.new_at (by simp)).call hb1; (have A := A1; obtain ⟨_, _, _, _⟩ := A); (have B := B1; obtain ⟨_, _, _, _⟩ := B); (have C := C1'; obtain ⟨_, _, _, _⟩ := C)
  go_wp2_with fail
  go_at_call 10; refine (R1.out.call _).mono ?_; rintro e w2 ⟨rfl, hb2⟩; have A2 := A1.call hb2; have B2 := B1.call hb2; have C2 := C1'.call hb2; (have A := A2; obtain ⟨_, _, _, _⟩ := A); (have B := B2; obtain ⟨_, _, _, _⟩ := B); (have C := C2; obtain ⟨_, _, _, _⟩ := C)
  go_wp2_with fail
  go_at_call 10; refine (R2.out.call _).mono ?_; rintro e w3 ⟨rfl, hb3⟩; have A3 := A2.call hb3; have B3 := B2.call hb3; have C3 := C2.call hb3; (have A := A3; obtain ⟨_, _, _, _⟩ := A); (have B := B3; obtain ⟨_, _, _, _⟩ := B); (have C := C3; obtain ⟨_, _, _, _⟩ := C)
  go_wp2_with fail
  go_at_call 10; refine (R3.out.call _).mono ?_; rintro e w4 ⟨rfl, hb4⟩; have A4 := A3.call hb4; have B4 := B3.call hb4; have C4 := C3.call hb4; (have A := A4; obtain ⟨_, _, _, _⟩ := A); (have B := B4; obtain ⟨_, _, _, _⟩ := B); (have C := C4; obtain ⟨_, _, _, _⟩ := C)
  go_wp2_with fail
  go_at_call 8; refine (W.out.call _).mono ?_; rintro e w9 ⟨rfl, hb9⟩
  go_wp2
  go_ret
  exact ⟨rfl, by repeat (first | exact Below.refl _ _ | apply ba | apply bd | apply bdr | (refine bs ?_ (by first | (simp; done) | (simp; omega))) | (refine bt ?_ (by assumption)))⟩

set_option maxRecDepth 100000 in
set_option maxHeartbeats 8000000 in
theorem orders_core (n1 k1 n2 k2 n3 k3 x y z pn pk pe qn qk qe : Int) (w0 : World) (W : Hid (Gives 8 #[] (.bool true)))
    (R1 : Hid (Gives 10 #[.agg #[.int .i64 (n1), .int .i64 (k1)]] (.bool true))) (R2 : Hid (Gives 10 #[.agg #[.int .i64 (n2), .int .i64 (k2)]] (.bool true))) (R3 : Hid (Gives 10 #[.agg #[.int .i64 (n3), .int .i64 (k3)]] (.bool true)))
    (K1 : Hid (Gives 25 #[.agg #[.int .i64 (n1), .int .i64 (k1)], .agg #[.int .i64 (n2), .int .i64 (k2)]] (.int .i64 x))) (K2 : Hid (Gives 25 #[.agg #[.int .i64 (n2), .int .i64 (k2)], .agg #[.int .i64 (n3), .int .i64 (k3)]] (.int .i64 y))) (K3 : Hid (Gives 25 #[.agg #[.int .i64 (n1), .int .i64 (k1)], .agg #[.int .i64 (n3), .int .i64 (k3)]] (.int .i64 z)))
    (hx : x ≤ 0 → y ≤ 0 → z ≤ 0) (hx' : x < 0 → y ≤ 0 → z < 0)
    (D1 : Hid (Gives 18 #[.agg #[.int .i64 (n1), .int .i64 (k1)], .agg #[.int .i64 (n3), .int .i64 (k3)]] (.tuple #[.agg #[.int .i64 (pn), .int .i64 (pk)], .int .i64 pe]))) (D2 : Hid (Gives 18 #[.agg #[.int .i64 (n2), .int .i64 (k2)], .agg #[.int .i64 (n3), .int .i64 (k3)]] (.tuple #[.agg #[.int .i64 (qn), .int .i64 (qk)], .int .i64 qe])))
    (hz : pe ≠ 0 ∨ (pe = 0 ∧ qe ≠ 0) ∨ (pe = 0 ∧ qe = 0 ∧ Hid (Gives 25 #[.agg #[.int .i64 (pn), .int .i64 (pk)], .agg #[.int .i64 (qn), .int .i64 (qk)]] (.int .i64 x)))) :
    Calls Tryd.prog 7 #[nv n1 k1, nv n2 k2, nv n3 k3] w0 fun e w' => e = .returned (.bool true) ∧ Below w0.heap.size w0 w' := by
  have HX := Lib.hid hx
  have HX' := Lib.hid hx'
  have HZ := Lib.hid hz
  clear hx hx' hz
  unfold nv
  go_enter Tryd.func7, Tryd.ntmps7
  go_wp2_with fail
  go_at_call 8; refine (W.out.call _).mono ?_; rintro e w1 ⟨rfl, hb1⟩; have A1 : Own w1 w0.heap.size (.int .i64 n1) (.int .i64 k1) := (((Own.new_at (by simp)).alloc _).alloc _).call hb1; have B1 : Own w1 (w0.heap.size + 1) (.int .i64 n2) (.int .i64 k2) := ((Own.new_at (by simp)).alloc _).call hb1; have C1' : Own w1 (w0.heap.size + 1 + 1) (.int .i64 n3) (.int .i64 k3) := (Own.new_at (by simp)).call hb1; (have A := A1; obtain ⟨_, _, _, _⟩ := A); (have B := B1; obtain ⟨_, _, _, _⟩ := B); (have C := C1'; obtain ⟨_, _, _, _⟩ := C)
  go_wp2_with fail
  go_at_call 10; refine (R1.out.call _).mono ?_; rintro e w2 ⟨rfl, hb2⟩; have A2 := A1.call hb2; have B2 := B1.call hb2; have C2 := C1'.call hb2; (have A := A2; obtain ⟨_, _, _, _⟩ := A); (have B := B2; obtain ⟨_, _, _, _⟩ := B); (have C := C2; obtain ⟨_, _, _, _⟩ := C)
  go_wp2_with fail
  go_at_call 10; refine (R2.out.call _).mono ?_; rintro e w3 ⟨rfl, hb3⟩; have A3 := A2.call hb3; have B3 := B2.call hb3; have C3 := C2.call hb3; (have A := A3; obtain ⟨_, _, _, _⟩ := A); (have B := B3; obtain ⟨_, _, _, _⟩ := B); (have C := C3; obtain ⟨_, _, _, _⟩ := C)
  go_wp2_with fail
  go_at_call 10; refine (R3.out.call _).mono ?_; rintro e w4 ⟨rfl, hb4⟩; have A4 := A3.call hb4; have B4 := B3.call hb4; have C4 := C3.call hb4; (have A := A4; obtain ⟨_, _, _, _⟩ := A); (have B := B4; obtain ⟨_, _, _, _⟩ := B); (have C := C4; obtain ⟨_, _, _, _⟩ := C)
  go_upto_region 3 with fail
  refine wp_region_inv (by kernel_rfl) (by kernel_rfl) (LoI w0 n1 k1 n2 k2 n3 k3 x y z) ?_ ?_ ?_
  · exact ⟨_, _, _, _, _, _, _, _, _, _, _, _, rfl, fun h => absurd h l0, fun h => absurd h l0, fun h => absurd h l0, fun h => absurd h l0, fun h => absurd h l0, fun h => absurd h l0, fun h => absurd h l0, fun h => absurd h l0, fun h => absurd h l0, fun h => absurd h l0, fun h => absurd h l0, fun h => absurd h l0, bdr (bt (bt (bt (bt (ba (ba (ba (Below.refl _ _)))) hb1) hb2) hb3) hb4), A4.drew, B4.drew, C4.drew⟩
  · intro i o listed A w hi ho hd hn hI
    obtain ⟨s7, s8, s9, s32, s33, s34, s35, s36, s37, s38, s39, s40, rfl, F0, F1, F2, F3, F4, F5, F6, F7, F8, F9, F10, F11, F12, F13, F14, F15⟩ := hI
    have hi' : i < 12 := hi
    clear hi
    rcases (by omega : i = 0 ∨ i = 1 ∨ i = 2 ∨ i = 3 ∨ i = 4 ∨ i = 5 ∨ i = 6 ∨ i = 7 ∨ i = 8 ∨ i = 9 ∨ i = 10 ∨ i = 11) with rfl | rfl | rfl | rfl | rfl | rfl | rfl | rfl | rfl | rfl | rfl | rfl
    · simp only [List.getElem?_toArray, List.getElem?_cons_zero, Option.some.injEq] at ho
      subst ho
      have O'0 := F13; obtain ⟨_, _, _, _⟩ := O'0
      refine wpOp_step rfl (fun K hK => ?_)
      go_simp
      refine hK _ _ ?_
      exact ⟨_, _, _, _, _, _, _, _, _, _, _, _, rfl, fun _ => rfl, fun h => F1 (ls (by decide) h), fun h => F2 (ls (by decide) h), fun h => F3 (ls (by decide) h), fun h => F4 (ls (by decide) h), fun h => F5 (ls (by decide) h), fun h => F6 (ls (by decide) h), fun h => F7 (ls (by decide) h), fun h => F8 (ls (by decide) h), fun h => F9 (ls (by decide) h), fun h => F10 (ls (by decide) h), fun h => F11 (ls (by decide) h), F12, F13, F14, F15⟩
    · simp only [List.getElem?_toArray, List.getElem?_cons_zero, List.getElem?_cons_succ, Option.some.injEq] at ho
      subst ho
      have O'1 := F14; obtain ⟨_, _, _, _⟩ := O'1
      refine wpOp_step rfl (fun K hK => ?_)
      go_simp
      refine hK _ _ ?_
      exact ⟨_, _, _, _, _, _, _, _, _, _, _, _, rfl, fun h => F0 (ls (by decide) h), fun _ => rfl, fun h => F2 (ls (by decide) h), fun h => F3 (ls (by decide) h), fun h => F4 (ls (by decide) h), fun h => F5 (ls (by decide) h), fun h => F6 (ls (by decide) h), fun h => F7 (ls (by decide) h), fun h => F8 (ls (by decide) h), fun h => F9 (ls (by decide) h), fun h => F10 (ls (by decide) h), fun h => F11 (ls (by decide) h), F12, F13, F14, F15⟩
    · simp only [List.getElem?_toArray, List.getElem?_cons_zero, List.getElem?_cons_succ, Option.some.injEq] at ho
      subst ho
      obtain rfl := F0 (hd ⟨0, .data⟩ (by simp) rfl)
      obtain rfl := F1 (hd ⟨1, .data⟩ (by simp) rfl)
      refine wpOp_step rfl (fun K hK => ?_)
      go_simp
      go_at_call 25; refine (K1.out.call _).mono ?_; rintro e w' ⟨rfl, hb⟩
      refine hK _ _ ?_
      exact ⟨_, _, _, _, _, _, _, _, _, _, _, _, rfl, fun h => F0 (ls (by decide) h), fun h => F1 (ls (by decide) h), fun _ => rfl, fun h => F3 (ls (by decide) h), fun h => F4 (ls (by decide) h), fun h => F5 (ls (by decide) h), fun h => F6 (ls (by decide) h), fun h => F7 (ls (by decide) h), fun h => F8 (ls (by decide) h), fun h => F9 (ls (by decide) h), fun h => F10 (ls (by decide) h), fun h => F11 (ls (by decide) h), bt F12 hb, (F13).call hb, (F14).call hb, (F15).call hb⟩
    · simp only [List.getElem?_toArray, List.getElem?_cons_zero, List.getElem?_cons_succ, Option.some.injEq] at ho
      subst ho
      have O'1 := F14; obtain ⟨_, _, _, _⟩ := O'1
      refine wpOp_step rfl (fun K hK => ?_)
      go_simp
      refine hK _ _ ?_
      exact ⟨_, _, _, _, _, _, _, _, _, _, _, _, rfl, fun h => F0 (ls (by decide) h), fun h => F1 (ls (by decide) h), fun h => F2 (ls (by decide) h), fun _ => rfl, fun h => F4 (ls (by decide) h), fun h => F5 (ls (by decide) h), fun h => F6 (ls (by decide) h), fun h => F7 (ls (by decide) h), fun h => F8 (ls (by decide) h), fun h => F9 (ls (by decide) h), fun h => F10 (ls (by decide) h), fun h => F11 (ls (by decide) h), F12, F13, F14, F15⟩
    · simp only [List.getElem?_toArray, List.getElem?_cons_zero, List.getElem?_cons_succ, Option.some.injEq] at ho
      subst ho
      have O'2 := F15; obtain ⟨_, _, _, _⟩ := O'2
      refine wpOp_step rfl (fun K hK => ?_)
      go_simp
      refine hK _ _ ?_
      exact ⟨_, _, _, _, _, _, _, _, _, _, _, _, rfl, fun h => F0 (ls (by decide) h), fun h => F1 (ls (by decide) h), fun h => F2 (ls (by decide) h), fun h => F3 (ls (by decide) h), fun _ => rfl, fun h => F5 (ls (by decide) h), fun h => F6 (ls (by decide) h), fun h => F7 (ls (by decide) h), fun h => F8 (ls (by decide) h), fun h => F9 (ls (by decide) h), fun h => F10 (ls (by decide) h), fun h => F11 (ls (by decide) h), F12, F13, F14, F15⟩
    · simp only [List.getElem?_toArray, List.getElem?_cons_zero, List.getElem?_cons_succ, Option.some.injEq] at ho
      subst ho
      obtain rfl := F3 (hd ⟨3, .data⟩ (by simp) rfl)
      obtain rfl := F4 (hd ⟨4, .data⟩ (by simp) rfl)
      refine wpOp_step rfl (fun K hK => ?_)
      go_simp
      go_at_call 25; refine (K2.out.call _).mono ?_; rintro e w' ⟨rfl, hb⟩
      refine hK _ _ ?_
      exact ⟨_, _, _, _, _, _, _, _, _, _, _, _, rfl, fun h => F0 (ls (by decide) h), fun h => F1 (ls (by decide) h), fun h => F2 (ls (by decide) h), fun h => F3 (ls (by decide) h), fun h => F4 (ls (by decide) h), fun _ => rfl, fun h => F6 (ls (by decide) h), fun h => F7 (ls (by decide) h), fun h => F8 (ls (by decide) h), fun h => F9 (ls (by decide) h), fun h => F10 (ls (by decide) h), fun h => F11 (ls (by decide) h), bt F12 hb, (F13).call hb, (F14).call hb, (F15).call hb⟩
    · simp only [List.getElem?_toArray, List.getElem?_cons_zero, List.getElem?_cons_succ, Option.some.injEq] at ho
      subst ho
      have O'0 := F13; obtain ⟨_, _, _, _⟩ := O'0
      refine wpOp_step rfl (fun K hK => ?_)
      go_simp
      refine hK _ _ ?_
      exact ⟨_, _, _, _, _, _, _, _, _, _, _, _, rfl, fun h => F0 (ls (by decide) h), fun h => F1 (ls (by decide) h), fun h => F2 (ls (by decide) h), fun h => F3 (ls (by decide) h), fun h => F4 (ls (by decide) h), fun h => F5 (ls (by decide) h), fun _ => rfl, fun h => F7 (ls (by decide) h), fun h => F8 (ls (by decide) h), fun h => F9 (ls (by decide) h), fun h => F10 (ls (by decide) h), fun h => F11 (ls (by decide) h), F12, F13, F14, F15⟩
    · simp only [List.getElem?_toArray, List.getElem?_cons_zero, List.getElem?_cons_succ, Option.some.injEq] at ho
      subst ho
      have O'2 := F15; obtain ⟨_, _, _, _⟩ := O'2
      refine wpOp_step rfl (fun K hK => ?_)
      go_simp
      refine hK _ _ ?_
      exact ⟨_, _, _, _, _, _, _, _, _, _, _, _, rfl, fun h => F0 (ls (by decide) h), fun h => F1 (ls (by decide) h), fun h => F2 (ls (by decide) h), fun h => F3 (ls (by decide) h), fun h => F4 (ls (by decide) h), fun h => F5 (ls (by decide) h), fun h => F6 (ls (by decide) h), fun _ => rfl, fun h => F8 (ls (by decide) h), fun h => F9 (ls (by decide) h), fun h => F10 (ls (by decide) h), fun h => F11 (ls (by decide) h), F12, F13, F14, F15⟩
    · simp only [List.getElem?_toArray, List.getElem?_cons_zero, List.getElem?_cons_succ, Option.some.injEq] at ho
      subst ho
      obtain rfl := F6 (hd ⟨6, .data⟩ (by simp) rfl)
      obtain rfl := F7 (hd ⟨7, .data⟩ (by simp) rfl)
      refine wpOp_step rfl (fun K hK => ?_)
      go_simp
      go_at_call 25; refine (K3.out.call _).mono ?_; rintro e w' ⟨rfl, hb⟩
      refine hK _ _ ?_
      exact ⟨_, _, _, _, _, _, _, _, _, _, _, _, rfl, fun h => F0 (ls (by decide) h), fun h => F1 (ls (by decide) h), fun h => F2 (ls (by decide) h), fun h => F3 (ls (by decide) h), fun h => F4 (ls (by decide) h), fun h => F5 (ls (by decide) h), fun h => F6 (ls (by decide) h), fun h => F7 (ls (by decide) h), fun _ => rfl, fun h => F9 (ls (by decide) h), fun h => F10 (ls (by decide) h), fun h => F11 (ls (by decide) h), bt F12 hb, (F13).call hb, (F14).call hb, (F15).call hb⟩
    · simp only [List.getElem?_toArray, List.getElem?_cons_zero, List.getElem?_cons_succ, Option.some.injEq] at ho
      subst ho
      obtain rfl := F2 (hd ⟨2, .data⟩ (by simp) rfl)
      refine wpOp_step rfl (fun K hK => ?_)
      go_simp
      refine hK _ _ ?_
      exact ⟨_, _, _, _, _, _, _, _, _, _, _, _, rfl, fun h => F0 (ls (by decide) h), fun h => F1 (ls (by decide) h), fun h => F2 (ls (by decide) h), fun h => F3 (ls (by decide) h), fun h => F4 (ls (by decide) h), fun h => F5 (ls (by decide) h), fun h => F6 (ls (by decide) h), fun h => F7 (ls (by decide) h), fun h => F8 (ls (by decide) h), fun _ => rfl, fun h => F10 (ls (by decide) h), fun h => F11 (ls (by decide) h), F12, F13, F14, F15⟩
    · simp only [List.getElem?_toArray, List.getElem?_cons_zero, List.getElem?_cons_succ, Option.some.injEq] at ho
      subst ho
      obtain rfl := F5 (hd ⟨5, .data⟩ (by simp) rfl)
      refine wpOp_step rfl (fun K hK => ?_)
      go_simp
      refine hK _ _ ?_
      exact ⟨_, _, _, _, _, _, _, _, _, _, _, _, rfl, fun h => F0 (ls (by decide) h), fun h => F1 (ls (by decide) h), fun h => F2 (ls (by decide) h), fun h => F3 (ls (by decide) h), fun h => F4 (ls (by decide) h), fun h => F5 (ls (by decide) h), fun h => F6 (ls (by decide) h), fun h => F7 (ls (by decide) h), fun h => F8 (ls (by decide) h), fun h => F9 (ls (by decide) h), fun _ => rfl, fun h => F11 (ls (by decide) h), F12, F13, F14, F15⟩
    · simp only [List.getElem?_toArray, List.getElem?_cons_zero, List.getElem?_cons_succ, Option.some.injEq] at ho
      subst ho
      obtain rfl := F8 (hd ⟨8, .data⟩ (by simp) rfl)
      refine wpOp_step rfl (fun K hK => ?_)
      go_simp
      refine hK _ _ ?_
      exact ⟨_, _, _, _, _, _, _, _, _, _, _, _, rfl, fun h => F0 (ls (by decide) h), fun h => F1 (ls (by decide) h), fun h => F2 (ls (by decide) h), fun h => F3 (ls (by decide) h), fun h => F4 (ls (by decide) h), fun h => F5 (ls (by decide) h), fun h => F6 (ls (by decide) h), fun h => F7 (ls (by decide) h), fun h => F8 (ls (by decide) h), fun h => F9 (ls (by decide) h), fun h => F10 (ls (by decide) h), fun _ => rfl, F12, F13, F14, F15⟩
  · intro listed A w hall hI
    obtain ⟨s7, s8, s9, s32, s33, s34, s35, s36, s37, s38, s39, s40, rfl, F0, F1, F2, F3, F4, F5, F6, F7, F8, F9, F10, F11, F12, F13, F14, F15⟩ := hI
    obtain rfl := F0 (hall 0 (by decide))
    obtain rfl := F1 (hall 1 (by decide))
    obtain rfl := F2 (hall 2 (by decide))
    obtain rfl := F3 (hall 3 (by decide))
    obtain rfl := F4 (hall 4 (by decide))
    obtain rfl := F5 (hall 5 (by decide))
    obtain rfl := F6 (hall 6 (by decide))
    obtain rfl := F7 (hall 7 (by decide))
    obtain rfl := F8 (hall 8 (by decide))
    obtain rfl := F9 (hall 9 (by decide))
    obtain rfl := F10 (hall 10 (by decide))
    obtain rfl := F11 (hall 11 (by decide))
    have HB := F12
    have B0 := F13
    have B1 := F14
    have B2 := F15
    clear hall F12 F13 F14 F15 F0 F1 F2 F3 F4 F5 F6 F7 F8 F9 F10 F11
    try dsimp only

    have hd : (¬ x ≤ 0 ∧ ¬ x < 0) ∨ (x ≤ 0 ∧ ¬ y ≤ 0 ∧ ¬ x < 0) ∨ (x ≤ 0 ∧ ¬ y ≤ 0 ∧ x < 0) ∨ (x ≤ 0 ∧ y ≤ 0 ∧ ¬ 0 < z ∧ x < 0 ∧ ¬ 0 ≤ z) ∨ (x ≤ 0 ∧ y ≤ 0 ∧ ¬ 0 < z ∧ ¬ x < 0) := by
      have := HX.out; have := HX'.out; omega
    have hz := HZ.out
    clear HX HX' HZ
    have E0 := B0; have E1 := B1; have E2 := B2
    obtain ⟨_, _, _, _⟩ := E0
    obtain ⟨_, _, _, _⟩ := E1
    obtain ⟨_, _, _, _⟩ := E2
    rcases hz with h1 | ⟨h0, h1⟩ | ⟨h0, h1, K4⟩
    all_goals (try subst h0)
    all_goals (try subst h1)
    all_goals
      rcases hd with ⟨d1, d2⟩ | ⟨d1, d2, d3⟩ | ⟨d1, d2, d3⟩ | ⟨d1, d2, d3, d4, d5⟩ | ⟨d1, d2, d3, d4⟩
    all_goals
      go_wp2_with fail
      go_at_call 18; refine (D1.out.call _).mono ?_; rintro e w5 ⟨rfl, hb5⟩
      have G1 := B1.call hb5; have G2 := B2.call hb5
      (have B := G1; obtain ⟨_, _, _, _⟩ := B); (have C := G2; obtain ⟨_, _, _, _⟩ := C)
      have L1 := G1.lt; have L2 := G2.lt
      go_wp2_with fail
      go_at_call 18; refine (D2.out.call _).mono ?_; rintro e w6 ⟨rfl, hb6⟩
      have PO : Own w6 w5.heap.size (.int .i64 pn) (.int .i64 pk) := (Own.new_at (by simp)).call hb6
      (have B := PO; obtain ⟨_, _, _, _⟩ := B)
      have L3 := PO.lt
      first
        | (go_wp2_with fail
           go_at_call 25; refine (K4.out.call _).mono ?_; rintro e w7 ⟨rfl, hb7⟩
           go_wp2
           go_ret
           exact ⟨rfl, by repeat (first | exact Below.refl _ _ | apply ba | apply bd | apply bdr | (refine bs ?_ (by first | (simp; done) | (simp; omega))) | (refine bt ?_ (by assumption)))⟩)
        | (go_wp2
           go_ret
           exact ⟨rfl, by repeat (first | exact Below.refl _ _ | apply ba | apply bd | apply bdr | (refine bs ?_ (by first | (simp; done) | (simp; omega))) | (refine bt ?_ (by assumption)))⟩)
end Go.Proofs
