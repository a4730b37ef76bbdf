/- The statement DeepTrees asks the program and the reference: a region that draws its order. No condition beyond what the theorems state. -/
import Derived.Test.YtnkodafhjcjpjaaDoorDeep
import Derived.Test.YtnkodafhjcjpjaaDoorWords
namespace Go.Proofs.YtnkodafhjcjpjaaDoor
open Go.RowKit Go.Lib
set_option maxRecDepth 100000
set_option maxHeartbeats 16000000
theorem cell_call {w w' : World} {B o : Nat} {v : Value} (h : w.cell? ⟨B, o, none⟩ = some v) (hb : Below w.heap.size w w') : w'.cell? ⟨B, o, none⟩ = some v := ((bcell hb).1 B o (World.block_lt_of_cell? w _ h)).trans h
def RyI (w0 : World) (k1 : Int) (n1 v1 : ByteArray) (A1 : Option Addr) (np1 ac1 : Nat) (K1 : Option Addr) (nk1 kc1 : Nat) (k2 : Int) (n2 v2 : ByteArray) (A2 : Option Addr) (np2 ac2 : Nat) (K2 : Option Addr) (nk2 kc2 : Nat) (k3 : Int) (n3 v3 : ByteArray) (A3 : Option Addr) (np3 ac3 : Nat) (K3 : Option Addr) (nk3 kc3 : Nat) (k4 : Int) (n4 v4 : ByteArray) (A4 : Option Addr) (np4 ac4 : Nat) (K4 : Option Addr) (nk4 kc4 : Nat) (ga gb gx gy : Nat) (c0 c1 c7 c8 c9 c10 c11 c12 c13 c14 c15 c16 c17 c18 c19 c20 : Value) (listed : Array Bool) (A : Act) (w : World) : Prop := ∃ (s4 s21 s22 s23 s24 s25 s26 s27 s28 s29 s30 s31 s32 s33 s34 s35 s36 s37 : Value), A = { tmps := #[c0, c1, .pointer (some ⟨ga, 0, none⟩), .pointer (some ⟨gb, 0, none⟩), s4, .pointer (some ⟨gx, 0, none⟩), .pointer (some ⟨gy, 0, none⟩), c7, c8, c9, c10, c11, c12, c13, c14, c15, c16, c17, c18, c19, c20, s21, s22, s23, s24, s25, s26, s27, s28, s29, s30, s31, s32, s33, s34, s35, s36, s37], defers := [] } ∧
  (listed.getD 0 false = true → s21 = .agg #[.int .i64 k3, .string n3, .string v3, .slice A3 np3 ac3, .slice K3 nk3 kc3]) ∧
  (listed.getD 1 false = true → s22 = .agg #[.int .i64 k4, .string n4, .string v4, .slice A4 np4 ac4, .slice K4 nk4 kc4]) ∧
  (listed.getD 2 false = true → s23 = .bool true) ∧
  (listed.getD 3 false = true → s24 = .agg #[.int .i64 k1, .string n1, .string v1, .slice A1 np1 ac1, .slice K1 nk1 kc1]) ∧
  (listed.getD 4 false = true → s25 = .agg #[.int .i64 k2, .string n2, .string v2, .slice A2 np2 ac2, .slice K2 nk2 kc2]) ∧
  (listed.getD 5 false = true → s26 = .bool true) ∧
  (listed.getD 6 false = true → s27 = .bool true) ∧
  (listed.getD 7 false = true → s28 = .bool true) ∧
  (listed.getD 8 false = true → s29 = .agg #[.int .i64 k3, .string n3, .string v3, .slice A3 np3 ac3, .slice K3 nk3 kc3]) ∧
  (listed.getD 9 false = true → s30 = .agg #[.int .i64 k1, .string n1, .string v1, .slice A1 np1 ac1, .slice K1 nk1 kc1]) ∧
  (listed.getD 10 false = true → s31 = .bool true) ∧
  (listed.getD 11 false = true → s32 = .bool true) ∧
  (listed.getD 12 false = true → s33 = .bool true) ∧
  (listed.getD 13 false = true → s34 = .agg #[.int .i64 k4, .string n4, .string v4, .slice A4 np4 ac4, .slice K4 nk4 kc4]) ∧
  (listed.getD 14 false = true → s35 = .agg #[.int .i64 k2, .string n2, .string v2, .slice A2 np2 ac2, .slice K2 nk2 kc2]) ∧
  (listed.getD 15 false = true → s36 = .bool true) ∧
  (listed.getD 16 false = true → s37 = .bool true) ∧
  (listed.getD 17 false = true → s4 = .bool true) ∧
  Below w0.heap.size w0 w ∧
  w.cell? ⟨ga, 0, none⟩ = some (.int .i64 k1) ∧
  w.cell? ⟨ga, 1, none⟩ = some (.string n1) ∧
  w.cell? ⟨ga, 2, none⟩ = some (.string v1) ∧
  w.cell? ⟨ga, 3, none⟩ = some (.slice A1 np1 ac1) ∧
  w.cell? ⟨ga, 4, none⟩ = some (.slice K1 nk1 kc1) ∧
  w.cell? ⟨gb, 0, none⟩ = some (.int .i64 k2) ∧
  w.cell? ⟨gb, 1, none⟩ = some (.string n2) ∧
  w.cell? ⟨gb, 2, none⟩ = some (.string v2) ∧
  w.cell? ⟨gb, 3, none⟩ = some (.slice A2 np2 ac2) ∧
  w.cell? ⟨gb, 4, none⟩ = some (.slice K2 nk2 kc2) ∧
  w.cell? ⟨gx, 0, none⟩ = some (.int .i64 k3) ∧
  w.cell? ⟨gx, 1, none⟩ = some (.string n3) ∧
  w.cell? ⟨gx, 2, none⟩ = some (.string v3) ∧
  w.cell? ⟨gx, 3, none⟩ = some (.slice A3 np3 ac3) ∧
  w.cell? ⟨gx, 4, none⟩ = some (.slice K3 nk3 kc3) ∧
  w.cell? ⟨gy, 0, none⟩ = some (.int .i64 k4) ∧
  w.cell? ⟨gy, 1, none⟩ = some (.string n4) ∧
  w.cell? ⟨gy, 2, none⟩ = some (.string v4) ∧
  w.cell? ⟨gy, 3, none⟩ = some (.slice A4 np4 ac4) ∧
  w.cell? ⟨gy, 4, none⟩ = some (.slice K4 nk4 kc4)
set_option maxRecDepth 100000 in
set_option maxHeartbeats 16000000 in
theorem Ry_region (k1 : Int) (n1 v1 : ByteArray) (A1 : Option Addr) (np1 ac1 : Nat) (K1 : Option Addr) (nk1 kc1 : Nat) (k2 : Int) (n2 v2 : ByteArray) (A2 : Option Addr) (np2 ac2 : Nat) (K2 : Option Addr) (nk2 kc2 : Nat) (k3 : Int) (n3 v3 : ByteArray) (A3 : Option Addr) (np3 ac3 : Nat) (K3 : Option Addr) (nk3 kc3 : Nat) (k4 : Int) (n4 v4 : ByteArray) (A4 : Option Addr) (np4 ac4 : Nat) (K4 : Option Addr) (nk4 kc4 : Nat) (ga gb gx gy : Nat) (x4 x21 x22 x23 x24 x25 x26 x27 x28 x29 x30 x31 x32 x33 x34 x35 x36 x37 : Value) (c0 c1 c7 c8 c9 c10 c11 c12 c13 c14 c15 c16 c17 c18 c19 c20 : Value) (w0 W : World) (Q : Exit → Act → World → Prop) (hb0 : Below w0.heap.size w0 W) (C0 : W.cell? ⟨ga, 0, none⟩ = some (.int .i64 k1)) (C1 : W.cell? ⟨ga, 1, none⟩ = some (.string n1)) (C2 : W.cell? ⟨ga, 2, none⟩ = some (.string v1)) (C3 : W.cell? ⟨ga, 3, none⟩ = some (.slice A1 np1 ac1)) (C4 : W.cell? ⟨ga, 4, none⟩ = some (.slice K1 nk1 kc1)) (C5 : W.cell? ⟨gb, 0, none⟩ = some (.int .i64 k2)) (C6 : W.cell? ⟨gb, 1, none⟩ = some (.string n2)) (C7 : W.cell? ⟨gb, 2, none⟩ = some (.string v2)) (C8 : W.cell? ⟨gb, 3, none⟩ = some (.slice A2 np2 ac2)) (C9 : W.cell? ⟨gb, 4, none⟩ = some (.slice K2 nk2 kc2)) (C10 : W.cell? ⟨gx, 0, none⟩ = some (.int .i64 k3)) (C11 : W.cell? ⟨gx, 1, none⟩ = some (.string n3)) (C12 : W.cell? ⟨gx, 2, none⟩ = some (.string v3)) (C13 : W.cell? ⟨gx, 3, none⟩ = some (.slice A3 np3 ac3)) (C14 : W.cell? ⟨gx, 4, none⟩ = some (.slice K3 nk3 kc3)) (C15 : W.cell? ⟨gy, 0, none⟩ = some (.int .i64 k4)) (C16 : W.cell? ⟨gy, 1, none⟩ = some (.string n4)) (C17 : W.cell? ⟨gy, 2, none⟩ = some (.string v4)) (C18 : W.cell? ⟨gy, 3, none⟩ = some (.slice A4 np4 ac4)) (C19 : W.cell? ⟨gy, 4, none⟩ = some (.slice K4 nk4 kc4)) (Hxy : Hid (∀ w1, Below w0.heap.size w0 w1 → Calls Tryd.prog 7 #[.agg #[.int .i64 k3, .string n3, .string v3, .slice A3 np3 ac3, .slice K3 nk3 kc3], .agg #[.int .i64 k4, .string n4, .string v4, .slice A4 np4 ac4, .slice K4 nk4 kc4]] w1 fun e w' => e = .returned (.bool true) ∧ Below w1.heap.size w1 w')) (Hab : Hid (∀ w1, Below w0.heap.size w0 w1 → Calls Tryd.prog 8 #[.agg #[.int .i64 k1, .string n1, .string v1, .slice A1 np1 ac1, .slice K1 nk1 kc1], .agg #[.int .i64 k2, .string n2, .string v2, .slice A2 np2 ac2, .slice K2 nk2 kc2]] w1 fun e w' => e = .returned (.bool true) ∧ Below w1.heap.size w1 w')) (Hxa : Hid (∀ w1, Below w0.heap.size w0 w1 → Calls Tryd.prog 9 #[.agg #[.int .i64 k3, .string n3, .string v3, .slice A3 np3 ac3, .slice K3 nk3 kc3], .agg #[.int .i64 k1, .string n1, .string v1, .slice A1 np1 ac1, .slice K1 nk1 kc1]] w1 fun e w' => e = .returned (.bool true) ∧ Below w1.heap.size w1 w')) (Hyb : Hid (∀ w1, Below w0.heap.size w0 w1 → Calls Tryd.prog 9 #[.agg #[.int .i64 k4, .string n4, .string v4, .slice A4 np4 ac4, .slice K4 nk4 kc4], .agg #[.int .i64 k2, .string n2, .string v2, .slice A2 np2 ac2, .slice K2 nk2 kc2]] w1 fun e w' => e = .returned (.bool true) ∧ Below w1.heap.size w1 w'))
    (hQ : ∀ (w : World) , (True) → Below w0.heap.size w0 w → Q .normal { tmps := #[c0, c1, .pointer (some ⟨ga, 0, none⟩), .pointer (some ⟨gb, 0, none⟩), .bool true, .pointer (some ⟨gx, 0, none⟩), .pointer (some ⟨gy, 0, none⟩), c7, c8, c9, c10, c11, c12, c13, c14, c15, c16, c17, c18, c19, c20, .agg #[.int .i64 k3, .string n3, .string v3, .slice A3 np3 ac3, .slice K3 nk3 kc3], .agg #[.int .i64 k4, .string n4, .string v4, .slice A4 np4 ac4, .slice K4 nk4 kc4], .bool true, .agg #[.int .i64 k1, .string n1, .string v1, .slice A1 np1 ac1, .slice K1 nk1 kc1], .agg #[.int .i64 k2, .string n2, .string v2, .slice A2 np2 ac2, .slice K2 nk2 kc2], .bool true, .bool true, .bool true, .agg #[.int .i64 k3, .string n3, .string v3, .slice A3 np3 ac3, .slice K3 nk3 kc3], .agg #[.int .i64 k1, .string n1, .string v1, .slice A1 np1 ac1, .slice K1 nk1 kc1], .bool true, .bool true, .bool true, .agg #[.int .i64 k4, .string n4, .string v4, .slice A4 np4 ac4, .slice K4 nk4 kc4], .agg #[.int .i64 k2, .string n2, .string v2, .slice A2 np2 ac2, .slice K2 nk2 kc2], .bool true, .bool true], defers := [] } w) :
    Code.wp Tryd.prog ((Tryd.f3.body.bind (regionOf 4)).getD .skip) Q { tmps := #[c0, c1, .pointer (some ⟨ga, 0, none⟩), .pointer (some ⟨gb, 0, none⟩), x4, .pointer (some ⟨gx, 0, none⟩), .pointer (some ⟨gy, 0, none⟩), c7, c8, c9, c10, c11, c12, c13, c14, c15, c16, c17, c18, c19, c20, x21, x22, x23, x24, x25, x26, x27, x28, x29, x30, x31, x32, x33, x34, x35, x36, x37], defers := [] } W := by
  conv => arg 2; whnf
  refine wp_region_inv (by kernel_rfl) (by kernel_rfl) (RyI w0 k1 n1 v1 A1 np1 ac1 K1 nk1 kc1 k2 n2 v2 A2 np2 ac2 K2 nk2 kc2 k3 n3 v3 A3 np3 ac3 K3 nk3 kc3 k4 n4 v4 A4 np4 ac4 K4 nk4 kc4 ga gb gx gy c0 c1 c7 c8 c9 c10 c11 c12 c13 c14 c15 c16 c17 c18 c19 c20) ?_ ?_ ?_
  · exact ⟨_, _, _, _, _, _, _, _, _, _, _, _, _, _, _, _, _, _, rfl, fun h => absurd h l0, fun h => absurd h l0, fun h => absurd h l0, fun h => absurd h l0, fun h => absurd h l0, fun h => absurd h l0, fun h => absurd h l0, fun h => absurd h l0, fun h => absurd h l0, fun h => absurd h l0, fun h => absurd h l0, fun h => absurd h l0, fun h => absurd h l0, fun h => absurd h l0, fun h => absurd h l0, fun h => absurd h l0, fun h => absurd h l0, fun h => absurd h l0, bdr hb0, C0, C1, C2, C3, C4, C5, C6, C7, C8, C9, C10, C11, C12, C13, C14, C15, C16, C17, C18, C19⟩
  · intro i o listed A w hi ho hd hn hI
    unfold RyI at hI
    obtain ⟨s4, hI⟩ := hI
    obtain ⟨s21, hI⟩ := hI
    obtain ⟨s22, hI⟩ := hI
    obtain ⟨s23, hI⟩ := hI
    obtain ⟨s24, hI⟩ := hI
    obtain ⟨s25, hI⟩ := hI
    obtain ⟨s26, hI⟩ := hI
    obtain ⟨s27, hI⟩ := hI
    obtain ⟨s28, hI⟩ := hI
    obtain ⟨s29, hI⟩ := hI
    obtain ⟨s30, hI⟩ := hI
    obtain ⟨s31, hI⟩ := hI
    obtain ⟨s32, hI⟩ := hI
    obtain ⟨s33, hI⟩ := hI
    obtain ⟨s34, hI⟩ := hI
    obtain ⟨s35, hI⟩ := hI
    obtain ⟨s36, hI⟩ := hI
    obtain ⟨s37, hI⟩ := hI
    obtain ⟨rfl, hI⟩ := hI
    obtain ⟨F0, hI⟩ := hI
    obtain ⟨F1, hI⟩ := hI
    obtain ⟨F2, hI⟩ := hI
    obtain ⟨F3, hI⟩ := hI
    obtain ⟨F4, hI⟩ := hI
    obtain ⟨F5, hI⟩ := hI
    obtain ⟨F6, hI⟩ := hI
    obtain ⟨F7, hI⟩ := hI
    obtain ⟨F8, hI⟩ := hI
    obtain ⟨F9, hI⟩ := hI
    obtain ⟨F10, hI⟩ := hI
    obtain ⟨F11, hI⟩ := hI
    obtain ⟨F12, hI⟩ := hI
    obtain ⟨F13, hI⟩ := hI
    obtain ⟨F14, hI⟩ := hI
    obtain ⟨F15, hI⟩ := hI
    obtain ⟨F16, hI⟩ := hI
    obtain ⟨F17, hI⟩ := hI
    obtain ⟨F18, hI⟩ := hI
    obtain ⟨F19, hI⟩ := hI
    obtain ⟨F20, hI⟩ := hI
    obtain ⟨F21, hI⟩ := hI
    obtain ⟨F22, hI⟩ := hI
    obtain ⟨F23, hI⟩ := hI
    obtain ⟨F24, hI⟩ := hI
    obtain ⟨F25, hI⟩ := hI
    obtain ⟨F26, hI⟩ := hI
    obtain ⟨F27, hI⟩ := hI
    obtain ⟨F28, hI⟩ := hI
    obtain ⟨F29, hI⟩ := hI
    obtain ⟨F30, hI⟩ := hI
    obtain ⟨F31, hI⟩ := hI
    obtain ⟨F32, hI⟩ := hI
    obtain ⟨F33, hI⟩ := hI
    obtain ⟨F34, hI⟩ := hI
    obtain ⟨F35, hI⟩ := hI
    obtain ⟨F36, hI⟩ := hI
    obtain ⟨F37, hI⟩ := hI
    have F38 := hI; clear hI
    have hi' : i < 18 := hi
    clear hi
    rcases (by omega : i = 0 ∨ i = 1 ∨ i = 2 ∨ i = 3 ∨ i = 4 ∨ i = 5 ∨ i = 6 ∨ i = 7 ∨ i = 8 ∨ i = 9 ∨ i = 10 ∨ i = 11 ∨ i = 12 ∨ i = 13 ∨ i = 14 ∨ i = 15 ∨ i = 16 ∨ i = 17) with rfl | rfl | rfl | rfl | rfl | rfl | rfl | rfl | rfl | rfl | rfl | rfl | rfl | rfl | rfl | rfl | rfl | rfl
    · simp only [List.getElem?_toArray, List.getElem?_cons_zero, Option.some.injEq] at ho
      subst ho
      have h0 := F19; have h1 := F20; have h2 := F21; have h3 := F22; have h4 := F23; have h5 := F24; have h6 := F25; have h7 := F26; have h8 := F27; have h9 := F28; have h10 := F29; have h11 := F30; have h12 := F31; have h13 := F32; have h14 := F33; have h15 := F34; have h16 := F35; have h17 := F36; have h18 := F37; have h19 := F38
      refine wpOp_step rfl (fun K hK => ?_)
      go_simp
      refine hK _ _ ?_
      exact ⟨_, _, _, _, _, _, _, _, _, _, _, _, _, _, _, _, _, _, rfl, fun _ => rfl, lk F1, lk F2, lk F3, lk F4, lk F5, lk F6, lk F7, lk F8, lk F9, lk F10, lk F11, lk F12, lk F13, lk F14, lk F15, lk F16, lk F17, F18, F19, F20, F21, F22, F23, F24, F25, F26, F27, F28, F29, F30, F31, F32, F33, F34, F35, F36, F37, F38⟩
    · simp only [List.getElem?_toArray, List.getElem?_cons_zero, List.getElem?_cons_succ, Option.some.injEq] at ho
      subst ho
      have h0 := F19; have h1 := F20; have h2 := F21; have h3 := F22; have h4 := F23; have h5 := F24; have h6 := F25; have h7 := F26; have h8 := F27; have h9 := F28; have h10 := F29; have h11 := F30; have h12 := F31; have h13 := F32; have h14 := F33; have h15 := F34; have h16 := F35; have h17 := F36; have h18 := F37; have h19 := F38
      refine wpOp_step rfl (fun K hK => ?_)
      go_simp
      refine hK _ _ ?_
      exact ⟨_, _, _, _, _, _, _, _, _, _, _, _, _, _, _, _, _, _, rfl, lk F0, fun _ => rfl, lk F2, lk F3, lk F4, lk F5, lk F6, lk F7, lk F8, lk F9, lk F10, lk F11, lk F12, lk F13, lk F14, lk F15, lk F16, lk F17, F18, F19, F20, F21, F22, F23, F24, F25, F26, F27, F28, F29, F30, F31, F32, F33, F34, F35, F36, F37, F38⟩
    · simp only [List.getElem?_toArray, List.getElem?_cons_zero, List.getElem?_cons_succ, Option.some.injEq] at ho
      subst ho
      obtain rfl := F0 (hd ⟨0, .data⟩ (by simp) rfl)
      obtain rfl := F1 (hd ⟨1, .data⟩ (by simp) rfl)
      refine wpOp_step rfl (fun K hK => ?_)
      go_simp
      go_at_call 7
      refine (Hxy.out _ F18).mono ?_
      rintro e w' ⟨rfl, hb⟩
      refine hK _ _ ?_
      exact ⟨_, _, _, _, _, _, _, _, _, _, _, _, _, _, _, _, _, _, rfl, lk F0, lk F1, fun _ => rfl, lk F3, lk F4, lk F5, lk F6, lk F7, lk F8, lk F9, lk F10, lk F11, lk F12, lk F13, lk F14, lk F15, lk F16, lk F17, bt F18 hb, cell_call F19 hb, cell_call F20 hb, cell_call F21 hb, cell_call F22 hb, cell_call F23 hb, cell_call F24 hb, cell_call F25 hb, cell_call F26 hb, cell_call F27 hb, cell_call F28 hb, cell_call F29 hb, cell_call F30 hb, cell_call F31 hb, cell_call F32 hb, cell_call F33 hb, cell_call F34 hb, cell_call F35 hb, cell_call F36 hb, cell_call F37 hb, cell_call F38 hb⟩
    · simp only [List.getElem?_toArray, List.getElem?_cons_zero, List.getElem?_cons_succ, Option.some.injEq] at ho
      subst ho
      have h0 := F19; have h1 := F20; have h2 := F21; have h3 := F22; have h4 := F23; have h5 := F24; have h6 := F25; have h7 := F26; have h8 := F27; have h9 := F28; have h10 := F29; have h11 := F30; have h12 := F31; have h13 := F32; have h14 := F33; have h15 := F34; have h16 := F35; have h17 := F36; have h18 := F37; have h19 := F38
      refine wpOp_step rfl (fun K hK => ?_)
      go_simp
      refine hK _ _ ?_
      exact ⟨_, _, _, _, _, _, _, _, _, _, _, _, _, _, _, _, _, _, rfl, lk F0, lk F1, lk F2, fun _ => rfl, lk F4, lk F5, lk F6, lk F7, lk F8, lk F9, lk F10, lk F11, lk F12, lk F13, lk F14, lk F15, lk F16, lk F17, F18, F19, F20, F21, F22, F23, F24, F25, F26, F27, F28, F29, F30, F31, F32, F33, F34, F35, F36, F37, F38⟩
    · simp only [List.getElem?_toArray, List.getElem?_cons_zero, List.getElem?_cons_succ, Option.some.injEq] at ho
      subst ho
      have h0 := F19; have h1 := F20; have h2 := F21; have h3 := F22; have h4 := F23; have h5 := F24; have h6 := F25; have h7 := F26; have h8 := F27; have h9 := F28; have h10 := F29; have h11 := F30; have h12 := F31; have h13 := F32; have h14 := F33; have h15 := F34; have h16 := F35; have h17 := F36; have h18 := F37; have h19 := F38
      refine wpOp_step rfl (fun K hK => ?_)
      go_simp
      refine hK _ _ ?_
      exact ⟨_, _, _, _, _, _, _, _, _, _, _, _, _, _, _, _, _, _, rfl, lk F0, lk F1, lk F2, lk F3, fun _ => rfl, lk F5, lk F6, lk F7, lk F8, lk F9, lk F10, lk F11, lk F12, lk F13, lk F14, lk F15, lk F16, lk F17, F18, F19, F20, F21, F22, F23, F24, F25, F26, F27, F28, F29, F30, F31, F32, F33, F34, F35, F36, F37, F38⟩
    · simp only [List.getElem?_toArray, List.getElem?_cons_zero, List.getElem?_cons_succ, Option.some.injEq] at ho
      subst ho
      obtain rfl := F3 (hd ⟨3, .data⟩ (by simp) rfl)
      obtain rfl := F4 (hd ⟨4, .data⟩ (by simp) rfl)
      refine wpOp_step rfl (fun K hK => ?_)
      go_simp
      go_at_call 8
      refine (Hab.out _ F18).mono ?_
      rintro e w' ⟨rfl, hb⟩
      refine hK _ _ ?_
      exact ⟨_, _, _, _, _, _, _, _, _, _, _, _, _, _, _, _, _, _, rfl, lk F0, lk F1, lk F2, lk F3, lk F4, fun _ => rfl, lk F6, lk F7, lk F8, lk F9, lk F10, lk F11, lk F12, lk F13, lk F14, lk F15, lk F16, lk F17, bt F18 hb, cell_call F19 hb, cell_call F20 hb, cell_call F21 hb, cell_call F22 hb, cell_call F23 hb, cell_call F24 hb, cell_call F25 hb, cell_call F26 hb, cell_call F27 hb, cell_call F28 hb, cell_call F29 hb, cell_call F30 hb, cell_call F31 hb, cell_call F32 hb, cell_call F33 hb, cell_call F34 hb, cell_call F35 hb, cell_call F36 hb, cell_call F37 hb, cell_call F38 hb⟩
    · simp only [List.getElem?_toArray, List.getElem?_cons_zero, List.getElem?_cons_succ, Option.some.injEq] at ho
      subst ho
      obtain rfl := F2 (hd ⟨2, .data⟩ (by simp) rfl)
      obtain rfl := F5 (hd ⟨5, .data⟩ (by simp) rfl)
      refine wpOp_step rfl (fun K hK => ?_)
      go_simp
      refine hK _ _ ?_
      exact ⟨_, _, _, _, _, _, _, _, _, _, _, _, _, _, _, _, _, _, rfl, lk F0, lk F1, lk F2, lk F3, lk F4, lk F5, fun _ => rfl, lk F7, lk F8, lk F9, lk F10, lk F11, lk F12, lk F13, lk F14, lk F15, lk F16, lk F17, F18, F19, F20, F21, F22, F23, F24, F25, F26, F27, F28, F29, F30, F31, F32, F33, F34, F35, F36, F37, F38⟩
    · simp only [List.getElem?_toArray, List.getElem?_cons_zero, List.getElem?_cons_succ, Option.some.injEq] at ho
      subst ho
      obtain rfl := F6 (hd ⟨6, .data⟩ (by simp) rfl)
      refine wpOp_step rfl (fun K hK => ?_)
      go_simp
      refine hK _ _ ?_
      exact ⟨_, _, _, _, _, _, _, _, _, _, _, _, _, _, _, _, _, _, rfl, lk F0, lk F1, lk F2, lk F3, lk F4, lk F5, lk F6, fun _ => rfl, lk F8, lk F9, lk F10, lk F11, lk F12, lk F13, lk F14, lk F15, lk F16, lk F17, F18, F19, F20, F21, F22, F23, F24, F25, F26, F27, F28, F29, F30, F31, F32, F33, F34, F35, F36, F37, F38⟩
    · simp only [List.getElem?_toArray, List.getElem?_cons_zero, List.getElem?_cons_succ, Option.some.injEq] at ho
      subst ho
      obtain rfl := F7 (hd ⟨7, .guard⟩ (by simp) rfl)
      have h0 := F19; have h1 := F20; have h2 := F21; have h3 := F22; have h4 := F23; have h5 := F24; have h6 := F25; have h7 := F26; have h8 := F27; have h9 := F28; have h10 := F29; have h11 := F30; have h12 := F31; have h13 := F32; have h14 := F33; have h15 := F34; have h16 := F35; have h17 := F36; have h18 := F37; have h19 := F38
      refine wpOp_step rfl (fun K hK => ?_)
      go_simp
      refine hK _ _ ?_
      exact ⟨_, _, _, _, _, _, _, _, _, _, _, _, _, _, _, _, _, _, rfl, lk F0, lk F1, lk F2, lk F3, lk F4, lk F5, lk F6, lk F7, fun _ => rfl, lk F9, lk F10, lk F11, lk F12, lk F13, lk F14, lk F15, lk F16, lk F17, F18, F19, F20, F21, F22, F23, F24, F25, F26, F27, F28, F29, F30, F31, F32, F33, F34, F35, F36, F37, F38⟩
    · simp only [List.getElem?_toArray, List.getElem?_cons_zero, List.getElem?_cons_succ, Option.some.injEq] at ho
      subst ho
      obtain rfl := F7 (hd ⟨7, .guard⟩ (by simp) rfl)
      have h0 := F19; have h1 := F20; have h2 := F21; have h3 := F22; have h4 := F23; have h5 := F24; have h6 := F25; have h7 := F26; have h8 := F27; have h9 := F28; have h10 := F29; have h11 := F30; have h12 := F31; have h13 := F32; have h14 := F33; have h15 := F34; have h16 := F35; have h17 := F36; have h18 := F37; have h19 := F38
      refine wpOp_step rfl (fun K hK => ?_)
      go_simp
      refine hK _ _ ?_
      exact ⟨_, _, _, _, _, _, _, _, _, _, _, _, _, _, _, _, _, _, rfl, lk F0, lk F1, lk F2, lk F3, lk F4, lk F5, lk F6, lk F7, lk F8, fun _ => rfl, lk F10, lk F11, lk F12, lk F13, lk F14, lk F15, lk F16, lk F17, F18, F19, F20, F21, F22, F23, F24, F25, F26, F27, F28, F29, F30, F31, F32, F33, F34, F35, F36, F37, F38⟩
    · simp only [List.getElem?_toArray, List.getElem?_cons_zero, List.getElem?_cons_succ, Option.some.injEq] at ho
      subst ho
      obtain rfl := F8 (hd ⟨8, .data⟩ (by simp) rfl)
      obtain rfl := F9 (hd ⟨9, .data⟩ (by simp) rfl)
      obtain rfl := F7 (hd ⟨7, .guard⟩ (by simp) rfl)
      refine wpOp_step rfl (fun K hK => ?_)
      go_simp
      go_at_call 9
      refine (Hxa.out _ F18).mono ?_
      rintro e w' ⟨rfl, hb⟩
      refine hK _ _ ?_
      exact ⟨_, _, _, _, _, _, _, _, _, _, _, _, _, _, _, _, _, _, rfl, lk F0, lk F1, lk F2, lk F3, lk F4, lk F5, lk F6, lk F7, lk F8, lk F9, fun _ => rfl, lk F11, lk F12, lk F13, lk F14, lk F15, lk F16, lk F17, bt F18 hb, cell_call F19 hb, cell_call F20 hb, cell_call F21 hb, cell_call F22 hb, cell_call F23 hb, cell_call F24 hb, cell_call F25 hb, cell_call F26 hb, cell_call F27 hb, cell_call F28 hb, cell_call F29 hb, cell_call F30 hb, cell_call F31 hb, cell_call F32 hb, cell_call F33 hb, cell_call F34 hb, cell_call F35 hb, cell_call F36 hb, cell_call F37 hb, cell_call F38 hb⟩
    · simp only [List.getElem?_toArray, List.getElem?_cons_zero, List.getElem?_cons_succ, Option.some.injEq] at ho
      subst ho
      obtain rfl := F7 (hd ⟨7, .data⟩ (by simp) rfl)
      obtain rfl := F10 (hd ⟨10, .data⟩ (by simp) rfl)
      refine wpOp_step rfl (fun K hK => ?_)
      go_simp
      refine hK _ _ ?_
      exact ⟨_, _, _, _, _, _, _, _, _, _, _, _, _, _, _, _, _, _, rfl, lk F0, lk F1, lk F2, lk F3, lk F4, lk F5, lk F6, lk F7, lk F8, lk F9, lk F10, fun _ => rfl, lk F12, lk F13, lk F14, lk F15, lk F16, lk F17, F18, F19, F20, F21, F22, F23, F24, F25, F26, F27, F28, F29, F30, F31, F32, F33, F34, F35, F36, F37, F38⟩
    · simp only [List.getElem?_toArray, List.getElem?_cons_zero, List.getElem?_cons_succ, Option.some.injEq] at ho
      subst ho
      obtain rfl := F11 (hd ⟨11, .data⟩ (by simp) rfl)
      refine wpOp_step rfl (fun K hK => ?_)
      go_simp
      refine hK _ _ ?_
      exact ⟨_, _, _, _, _, _, _, _, _, _, _, _, _, _, _, _, _, _, rfl, lk F0, lk F1, lk F2, lk F3, lk F4, lk F5, lk F6, lk F7, lk F8, lk F9, lk F10, lk F11, fun _ => rfl, lk F13, lk F14, lk F15, lk F16, lk F17, F18, F19, F20, F21, F22, F23, F24, F25, F26, F27, F28, F29, F30, F31, F32, F33, F34, F35, F36, F37, F38⟩
    · simp only [List.getElem?_toArray, List.getElem?_cons_zero, List.getElem?_cons_succ, Option.some.injEq] at ho
      subst ho
      obtain rfl := F12 (hd ⟨12, .guard⟩ (by simp) rfl)
      have h0 := F19; have h1 := F20; have h2 := F21; have h3 := F22; have h4 := F23; have h5 := F24; have h6 := F25; have h7 := F26; have h8 := F27; have h9 := F28; have h10 := F29; have h11 := F30; have h12 := F31; have h13 := F32; have h14 := F33; have h15 := F34; have h16 := F35; have h17 := F36; have h18 := F37; have h19 := F38
      refine wpOp_step rfl (fun K hK => ?_)
      go_simp
      refine hK _ _ ?_
      exact ⟨_, _, _, _, _, _, _, _, _, _, _, _, _, _, _, _, _, _, rfl, lk F0, lk F1, lk F2, lk F3, lk F4, lk F5, lk F6, lk F7, lk F8, lk F9, lk F10, lk F11, lk F12, fun _ => rfl, lk F14, lk F15, lk F16, lk F17, F18, F19, F20, F21, F22, F23, F24, F25, F26, F27, F28, F29, F30, F31, F32, F33, F34, F35, F36, F37, F38⟩
    · simp only [List.getElem?_toArray, List.getElem?_cons_zero, List.getElem?_cons_succ, Option.some.injEq] at ho
      subst ho
      obtain rfl := F12 (hd ⟨12, .guard⟩ (by simp) rfl)
      have h0 := F19; have h1 := F20; have h2 := F21; have h3 := F22; have h4 := F23; have h5 := F24; have h6 := F25; have h7 := F26; have h8 := F27; have h9 := F28; have h10 := F29; have h11 := F30; have h12 := F31; have h13 := F32; have h14 := F33; have h15 := F34; have h16 := F35; have h17 := F36; have h18 := F37; have h19 := F38
      refine wpOp_step rfl (fun K hK => ?_)
      go_simp
      refine hK _ _ ?_
      exact ⟨_, _, _, _, _, _, _, _, _, _, _, _, _, _, _, _, _, _, rfl, lk F0, lk F1, lk F2, lk F3, lk F4, lk F5, lk F6, lk F7, lk F8, lk F9, lk F10, lk F11, lk F12, lk F13, fun _ => rfl, lk F15, lk F16, lk F17, F18, F19, F20, F21, F22, F23, F24, F25, F26, F27, F28, F29, F30, F31, F32, F33, F34, F35, F36, F37, F38⟩
    · simp only [List.getElem?_toArray, List.getElem?_cons_zero, List.getElem?_cons_succ, Option.some.injEq] at ho
      subst ho
      obtain rfl := F13 (hd ⟨13, .data⟩ (by simp) rfl)
      obtain rfl := F14 (hd ⟨14, .data⟩ (by simp) rfl)
      obtain rfl := F12 (hd ⟨12, .guard⟩ (by simp) rfl)
      refine wpOp_step rfl (fun K hK => ?_)
      go_simp
      go_at_call 9
      refine (Hyb.out _ F18).mono ?_
      rintro e w' ⟨rfl, hb⟩
      refine hK _ _ ?_
      exact ⟨_, _, _, _, _, _, _, _, _, _, _, _, _, _, _, _, _, _, rfl, lk F0, lk F1, lk F2, lk F3, lk F4, lk F5, lk F6, lk F7, lk F8, lk F9, lk F10, lk F11, lk F12, lk F13, lk F14, fun _ => rfl, lk F16, lk F17, bt F18 hb, cell_call F19 hb, cell_call F20 hb, cell_call F21 hb, cell_call F22 hb, cell_call F23 hb, cell_call F24 hb, cell_call F25 hb, cell_call F26 hb, cell_call F27 hb, cell_call F28 hb, cell_call F29 hb, cell_call F30 hb, cell_call F31 hb, cell_call F32 hb, cell_call F33 hb, cell_call F34 hb, cell_call F35 hb, cell_call F36 hb, cell_call F37 hb, cell_call F38 hb⟩
    · simp only [List.getElem?_toArray, List.getElem?_cons_zero, List.getElem?_cons_succ, Option.some.injEq] at ho
      subst ho
      obtain rfl := F12 (hd ⟨12, .data⟩ (by simp) rfl)
      obtain rfl := F15 (hd ⟨15, .data⟩ (by simp) rfl)
      refine wpOp_step rfl (fun K hK => ?_)
      go_simp
      refine hK _ _ ?_
      exact ⟨_, _, _, _, _, _, _, _, _, _, _, _, _, _, _, _, _, _, rfl, lk F0, lk F1, lk F2, lk F3, lk F4, lk F5, lk F6, lk F7, lk F8, lk F9, lk F10, lk F11, lk F12, lk F13, lk F14, lk F15, fun _ => rfl, lk F17, F18, F19, F20, F21, F22, F23, F24, F25, F26, F27, F28, F29, F30, F31, F32, F33, F34, F35, F36, F37, F38⟩
    · simp only [List.getElem?_toArray, List.getElem?_cons_zero, List.getElem?_cons_succ, Option.some.injEq] at ho
      subst ho
      obtain rfl := F16 (hd ⟨16, .data⟩ (by simp) rfl)
      refine wpOp_step rfl (fun K hK => ?_)
      go_simp
      refine hK _ _ ?_
      exact ⟨_, _, _, _, _, _, _, _, _, _, _, _, _, _, _, _, _, _, rfl, lk F0, lk F1, lk F2, lk F3, lk F4, lk F5, lk F6, lk F7, lk F8, lk F9, lk F10, lk F11, lk F12, lk F13, lk F14, lk F15, lk F16, fun _ => rfl, F18, F19, F20, F21, F22, F23, F24, F25, F26, F27, F28, F29, F30, F31, F32, F33, F34, F35, F36, F37, F38⟩
  · intro listed A w hall hI
    unfold RyI at hI
    obtain ⟨s4, hI⟩ := hI
    obtain ⟨s21, hI⟩ := hI
    obtain ⟨s22, hI⟩ := hI
    obtain ⟨s23, hI⟩ := hI
    obtain ⟨s24, hI⟩ := hI
    obtain ⟨s25, hI⟩ := hI
    obtain ⟨s26, hI⟩ := hI
    obtain ⟨s27, hI⟩ := hI
    obtain ⟨s28, hI⟩ := hI
    obtain ⟨s29, hI⟩ := hI
    obtain ⟨s30, hI⟩ := hI
    obtain ⟨s31, hI⟩ := hI
    obtain ⟨s32, hI⟩ := hI
    obtain ⟨s33, hI⟩ := hI
    obtain ⟨s34, hI⟩ := hI
    obtain ⟨s35, hI⟩ := hI
    obtain ⟨s36, hI⟩ := hI
    obtain ⟨s37, hI⟩ := hI
    obtain ⟨rfl, hI⟩ := hI
    obtain ⟨F0, hI⟩ := hI
    obtain ⟨F1, hI⟩ := hI
    obtain ⟨F2, hI⟩ := hI
    obtain ⟨F3, hI⟩ := hI
    obtain ⟨F4, hI⟩ := hI
    obtain ⟨F5, hI⟩ := hI
    obtain ⟨F6, hI⟩ := hI
    obtain ⟨F7, hI⟩ := hI
    obtain ⟨F8, hI⟩ := hI
    obtain ⟨F9, hI⟩ := hI
    obtain ⟨F10, hI⟩ := hI
    obtain ⟨F11, hI⟩ := hI
    obtain ⟨F12, hI⟩ := hI
    obtain ⟨F13, hI⟩ := hI
    obtain ⟨F14, hI⟩ := hI
    obtain ⟨F15, hI⟩ := hI
    obtain ⟨F16, hI⟩ := hI
    obtain ⟨F17, hI⟩ := hI
    obtain ⟨F18, hI⟩ := hI
    obtain ⟨F19, hI⟩ := hI
    obtain ⟨F20, hI⟩ := hI
    obtain ⟨F21, hI⟩ := hI
    obtain ⟨F22, hI⟩ := hI
    obtain ⟨F23, hI⟩ := hI
    obtain ⟨F24, hI⟩ := hI
    obtain ⟨F25, hI⟩ := hI
    obtain ⟨F26, hI⟩ := hI
    obtain ⟨F27, hI⟩ := hI
    obtain ⟨F28, hI⟩ := hI
    obtain ⟨F29, hI⟩ := hI
    obtain ⟨F30, hI⟩ := hI
    obtain ⟨F31, hI⟩ := hI
    obtain ⟨F32, hI⟩ := hI
    obtain ⟨F33, hI⟩ := hI
    obtain ⟨F34, hI⟩ := hI
    obtain ⟨F35, hI⟩ := hI
    obtain ⟨F36, hI⟩ := hI
    obtain ⟨F37, hI⟩ := hI
    have F38 := hI; clear hI
    obtain rfl := F0 (hall 0 (by decide))
    obtain rfl := F1 (hall 1 (by decide))
    obtain rfl := F2 (hall 2 (by decide))
    obtain rfl := F3 (hall 3 (by decide))
    obtain rfl := F4 (hall 4 (by decide))
    obtain rfl := F5 (hall 5 (by decide))
    obtain rfl := F6 (hall 6 (by decide))
    obtain rfl := F7 (hall 7 (by decide))
    obtain rfl := F8 (hall 8 (by decide))
    obtain rfl := F9 (hall 9 (by decide))
    obtain rfl := F10 (hall 10 (by decide))
    obtain rfl := F11 (hall 11 (by decide))
    obtain rfl := F12 (hall 12 (by decide))
    obtain rfl := F13 (hall 13 (by decide))
    obtain rfl := F14 (hall 14 (by decide))
    obtain rfl := F15 (hall 15 (by decide))
    obtain rfl := F16 (hall 16 (by decide))
    obtain rfl := F17 (hall 17 (by decide))
    have HB := F18
    have Q0 := F19
    have Q1 := F20
    have Q2 := F21
    have Q3 := F22
    have Q4 := F23
    have Q5 := F24
    have Q6 := F25
    have Q7 := F26
    have Q8 := F27
    have Q9 := F28
    have Q10 := F29
    have Q11 := F30
    have Q12 := F31
    have Q13 := F32
    have Q14 := F33
    have Q15 := F34
    have Q16 := F35
    have Q17 := F36
    have Q18 := F37
    have Q19 := F38
    exact hQ _ trivial HB
def RnI (w0 : World) (k1 : Int) (n1 v1 : ByteArray) (A1 : Option Addr) (np1 ac1 : Nat) (K1 : Option Addr) (nk1 kc1 : Nat) (k2 : Int) (n2 v2 : ByteArray) (A2 : Option Addr) (np2 ac2 : Nat) (K2 : Option Addr) (nk2 kc2 : Nat) (k3 : Int) (n3 v3 : ByteArray) (A3 : Option Addr) (np3 ac3 : Nat) (K3 : Option Addr) (nk3 kc3 : Nat) (k4 : Int) (n4 v4 : ByteArray) (A4 : Option Addr) (np4 ac4 : Nat) (K4 : Option Addr) (nk4 kc4 : Nat) (ga gb gx gy : Nat) (c0 c1 c7 c8 c9 c10 c11 c12 c13 c14 c15 c16 c17 c18 c19 c20 : Value) (listed : Array Bool) (A : Act) (w : World) : Prop := ∃ (s4 s21 s22 s23 s24 s25 s26 s27 s28 s29 s30 s31 s32 s33 s34 s35 s36 s37 : Value), A = { tmps := #[c0, c1, .pointer (some ⟨ga, 0, none⟩), .pointer (some ⟨gb, 0, none⟩), s4, .pointer (some ⟨gx, 0, none⟩), .pointer (some ⟨gy, 0, none⟩), c7, c8, c9, c10, c11, c12, c13, c14, c15, c16, c17, c18, c19, c20, s21, s22, s23, s24, s25, s26, s27, s28, s29, s30, s31, s32, s33, s34, s35, s36, s37], defers := [] } ∧
  (listed.getD 0 false = true → s21 = .agg #[.int .i64 k3, .string n3, .string v3, .slice A3 np3 ac3, .slice K3 nk3 kc3]) ∧
  (listed.getD 1 false = true → s22 = .agg #[.int .i64 k4, .string n4, .string v4, .slice A4 np4 ac4, .slice K4 nk4 kc4]) ∧
  (listed.getD 2 false = true → s23 = .bool false) ∧
  (listed.getD 3 false = true → s24 = .agg #[.int .i64 k1, .string n1, .string v1, .slice A1 np1 ac1, .slice K1 nk1 kc1]) ∧
  (listed.getD 4 false = true → s25 = .agg #[.int .i64 k2, .string n2, .string v2, .slice A2 np2 ac2, .slice K2 nk2 kc2]) ∧
  (listed.getD 5 false = true → s26 = .bool false) ∧
  (listed.getD 6 false = true → s27 = .bool true) ∧
  (listed.getD 7 false = true → s28 = .bool true) ∧
  (listed.getD 8 false = true → s29 = .agg #[.int .i64 k3, .string n3, .string v3, .slice A3 np3 ac3, .slice K3 nk3 kc3]) ∧
  (listed.getD 9 false = true → s30 = .agg #[.int .i64 k1, .string n1, .string v1, .slice A1 np1 ac1, .slice K1 nk1 kc1]) ∧
  (listed.getD 10 false = true → s31 = .bool true) ∧
  (listed.getD 11 false = true → s32 = .bool true) ∧
  (listed.getD 12 false = true → s33 = .bool true) ∧
  (listed.getD 13 false = true → s34 = .agg #[.int .i64 k4, .string n4, .string v4, .slice A4 np4 ac4, .slice K4 nk4 kc4]) ∧
  (listed.getD 14 false = true → s35 = .agg #[.int .i64 k2, .string n2, .string v2, .slice A2 np2 ac2, .slice K2 nk2 kc2]) ∧
  (listed.getD 15 false = true → s36 = .bool true) ∧
  (listed.getD 16 false = true → s37 = .bool true) ∧
  (listed.getD 17 false = true → s4 = .bool true) ∧
  Below w0.heap.size w0 w ∧
  w.cell? ⟨ga, 0, none⟩ = some (.int .i64 k1) ∧
  w.cell? ⟨ga, 1, none⟩ = some (.string n1) ∧
  w.cell? ⟨ga, 2, none⟩ = some (.string v1) ∧
  w.cell? ⟨ga, 3, none⟩ = some (.slice A1 np1 ac1) ∧
  w.cell? ⟨ga, 4, none⟩ = some (.slice K1 nk1 kc1) ∧
  w.cell? ⟨gb, 0, none⟩ = some (.int .i64 k2) ∧
  w.cell? ⟨gb, 1, none⟩ = some (.string n2) ∧
  w.cell? ⟨gb, 2, none⟩ = some (.string v2) ∧
  w.cell? ⟨gb, 3, none⟩ = some (.slice A2 np2 ac2) ∧
  w.cell? ⟨gb, 4, none⟩ = some (.slice K2 nk2 kc2) ∧
  w.cell? ⟨gx, 0, none⟩ = some (.int .i64 k3) ∧
  w.cell? ⟨gx, 1, none⟩ = some (.string n3) ∧
  w.cell? ⟨gx, 2, none⟩ = some (.string v3) ∧
  w.cell? ⟨gx, 3, none⟩ = some (.slice A3 np3 ac3) ∧
  w.cell? ⟨gx, 4, none⟩ = some (.slice K3 nk3 kc3) ∧
  w.cell? ⟨gy, 0, none⟩ = some (.int .i64 k4) ∧
  w.cell? ⟨gy, 1, none⟩ = some (.string n4) ∧
  w.cell? ⟨gy, 2, none⟩ = some (.string v4) ∧
  w.cell? ⟨gy, 3, none⟩ = some (.slice A4 np4 ac4) ∧
  w.cell? ⟨gy, 4, none⟩ = some (.slice K4 nk4 kc4)
set_option maxRecDepth 100000 in
set_option maxHeartbeats 16000000 in
theorem Rn_region (k1 : Int) (n1 v1 : ByteArray) (A1 : Option Addr) (np1 ac1 : Nat) (K1 : Option Addr) (nk1 kc1 : Nat) (k2 : Int) (n2 v2 : ByteArray) (A2 : Option Addr) (np2 ac2 : Nat) (K2 : Option Addr) (nk2 kc2 : Nat) (k3 : Int) (n3 v3 : ByteArray) (A3 : Option Addr) (np3 ac3 : Nat) (K3 : Option Addr) (nk3 kc3 : Nat) (k4 : Int) (n4 v4 : ByteArray) (A4 : Option Addr) (np4 ac4 : Nat) (K4 : Option Addr) (nk4 kc4 : Nat) (ga gb gx gy : Nat) (x4 x21 x22 x23 x24 x25 x26 x27 x28 x29 x30 x31 x32 x33 x34 x35 x36 x37 : Value) (c0 c1 c7 c8 c9 c10 c11 c12 c13 c14 c15 c16 c17 c18 c19 c20 : Value) (w0 W : World) (Q : Exit → Act → World → Prop) (hb0 : Below w0.heap.size w0 W) (C0 : W.cell? ⟨ga, 0, none⟩ = some (.int .i64 k1)) (C1 : W.cell? ⟨ga, 1, none⟩ = some (.string n1)) (C2 : W.cell? ⟨ga, 2, none⟩ = some (.string v1)) (C3 : W.cell? ⟨ga, 3, none⟩ = some (.slice A1 np1 ac1)) (C4 : W.cell? ⟨ga, 4, none⟩ = some (.slice K1 nk1 kc1)) (C5 : W.cell? ⟨gb, 0, none⟩ = some (.int .i64 k2)) (C6 : W.cell? ⟨gb, 1, none⟩ = some (.string n2)) (C7 : W.cell? ⟨gb, 2, none⟩ = some (.string v2)) (C8 : W.cell? ⟨gb, 3, none⟩ = some (.slice A2 np2 ac2)) (C9 : W.cell? ⟨gb, 4, none⟩ = some (.slice K2 nk2 kc2)) (C10 : W.cell? ⟨gx, 0, none⟩ = some (.int .i64 k3)) (C11 : W.cell? ⟨gx, 1, none⟩ = some (.string n3)) (C12 : W.cell? ⟨gx, 2, none⟩ = some (.string v3)) (C13 : W.cell? ⟨gx, 3, none⟩ = some (.slice A3 np3 ac3)) (C14 : W.cell? ⟨gx, 4, none⟩ = some (.slice K3 nk3 kc3)) (C15 : W.cell? ⟨gy, 0, none⟩ = some (.int .i64 k4)) (C16 : W.cell? ⟨gy, 1, none⟩ = some (.string n4)) (C17 : W.cell? ⟨gy, 2, none⟩ = some (.string v4)) (C18 : W.cell? ⟨gy, 3, none⟩ = some (.slice A4 np4 ac4)) (C19 : W.cell? ⟨gy, 4, none⟩ = some (.slice K4 nk4 kc4)) (Hxy : Hid (∀ w1, Below w0.heap.size w0 w1 → Calls Tryd.prog 7 #[.agg #[.int .i64 k3, .string n3, .string v3, .slice A3 np3 ac3, .slice K3 nk3 kc3], .agg #[.int .i64 k4, .string n4, .string v4, .slice A4 np4 ac4, .slice K4 nk4 kc4]] w1 fun e w' => e = .returned (.bool false) ∧ Below w1.heap.size w1 w')) (Hab : Hid (∀ w1, Below w0.heap.size w0 w1 → Calls Tryd.prog 8 #[.agg #[.int .i64 k1, .string n1, .string v1, .slice A1 np1 ac1, .slice K1 nk1 kc1], .agg #[.int .i64 k2, .string n2, .string v2, .slice A2 np2 ac2, .slice K2 nk2 kc2]] w1 fun e w' => e = .returned (.bool false) ∧ Below w1.heap.size w1 w')) (Hxa : Hid (∀ w1, Below w0.heap.size w0 w1 → Calls Tryd.prog 9 #[.agg #[.int .i64 k3, .string n3, .string v3, .slice A3 np3 ac3, .slice K3 nk3 kc3], .agg #[.int .i64 k1, .string n1, .string v1, .slice A1 np1 ac1, .slice K1 nk1 kc1]] w1 fun e w' => e = .returned (.bool true) ∧ Below w1.heap.size w1 w')) (Hyb : Hid (∀ w1, Below w0.heap.size w0 w1 → Calls Tryd.prog 9 #[.agg #[.int .i64 k4, .string n4, .string v4, .slice A4 np4 ac4, .slice K4 nk4 kc4], .agg #[.int .i64 k2, .string n2, .string v2, .slice A2 np2 ac2, .slice K2 nk2 kc2]] w1 fun e w' => e = .returned (.bool true) ∧ Below w1.heap.size w1 w'))
    (hQ : ∀ (w : World) , (True) → Below w0.heap.size w0 w → Q .normal { tmps := #[c0, c1, .pointer (some ⟨ga, 0, none⟩), .pointer (some ⟨gb, 0, none⟩), .bool true, .pointer (some ⟨gx, 0, none⟩), .pointer (some ⟨gy, 0, none⟩), c7, c8, c9, c10, c11, c12, c13, c14, c15, c16, c17, c18, c19, c20, .agg #[.int .i64 k3, .string n3, .string v3, .slice A3 np3 ac3, .slice K3 nk3 kc3], .agg #[.int .i64 k4, .string n4, .string v4, .slice A4 np4 ac4, .slice K4 nk4 kc4], .bool false, .agg #[.int .i64 k1, .string n1, .string v1, .slice A1 np1 ac1, .slice K1 nk1 kc1], .agg #[.int .i64 k2, .string n2, .string v2, .slice A2 np2 ac2, .slice K2 nk2 kc2], .bool false, .bool true, .bool true, .agg #[.int .i64 k3, .string n3, .string v3, .slice A3 np3 ac3, .slice K3 nk3 kc3], .agg #[.int .i64 k1, .string n1, .string v1, .slice A1 np1 ac1, .slice K1 nk1 kc1], .bool true, .bool true, .bool true, .agg #[.int .i64 k4, .string n4, .string v4, .slice A4 np4 ac4, .slice K4 nk4 kc4], .agg #[.int .i64 k2, .string n2, .string v2, .slice A2 np2 ac2, .slice K2 nk2 kc2], .bool true, .bool true], defers := [] } w) :
    Code.wp Tryd.prog ((Tryd.f3.body.bind (regionOf 4)).getD .skip) Q { tmps := #[c0, c1, .pointer (some ⟨ga, 0, none⟩), .pointer (some ⟨gb, 0, none⟩), x4, .pointer (some ⟨gx, 0, none⟩), .pointer (some ⟨gy, 0, none⟩), c7, c8, c9, c10, c11, c12, c13, c14, c15, c16, c17, c18, c19, c20, x21, x22, x23, x24, x25, x26, x27, x28, x29, x30, x31, x32, x33, x34, x35, x36, x37], defers := [] } W := by
  conv => arg 2; whnf
  refine wp_region_inv (by kernel_rfl) (by kernel_rfl) (RnI w0 k1 n1 v1 A1 np1 ac1 K1 nk1 kc1 k2 n2 v2 A2 np2 ac2 K2 nk2 kc2 k3 n3 v3 A3 np3 ac3 K3 nk3 kc3 k4 n4 v4 A4 np4 ac4 K4 nk4 kc4 ga gb gx gy c0 c1 c7 c8 c9 c10 c11 c12 c13 c14 c15 c16 c17 c18 c19 c20) ?_ ?_ ?_
  · exact ⟨_, _, _, _, _, _, _, _, _, _, _, _, _, _, _, _, _, _, rfl, fun h => absurd h l0, fun h => absurd h l0, fun h => absurd h l0, fun h => absurd h l0, fun h => absurd h l0, fun h => absurd h l0, fun h => absurd h l0, fun h => absurd h l0, fun h => absurd h l0, fun h => absurd h l0, fun h => absurd h l0, fun h => absurd h l0, fun h => absurd h l0, fun h => absurd h l0, fun h => absurd h l0, fun h => absurd h l0, fun h => absurd h l0, fun h => absurd h l0, bdr hb0, C0, C1, C2, C3, C4, C5, C6, C7, C8, C9, C10, C11, C12, C13, C14, C15, C16, C17, C18, C19⟩
  · intro i o listed A w hi ho hd hn hI
    unfold RnI at hI
    obtain ⟨s4, hI⟩ := hI
    obtain ⟨s21, hI⟩ := hI
    obtain ⟨s22, hI⟩ := hI
    obtain ⟨s23, hI⟩ := hI
    obtain ⟨s24, hI⟩ := hI
    obtain ⟨s25, hI⟩ := hI
    obtain ⟨s26, hI⟩ := hI
    obtain ⟨s27, hI⟩ := hI
    obtain ⟨s28, hI⟩ := hI
    obtain ⟨s29, hI⟩ := hI
    obtain ⟨s30, hI⟩ := hI
    obtain ⟨s31, hI⟩ := hI
    obtain ⟨s32, hI⟩ := hI
    obtain ⟨s33, hI⟩ := hI
    obtain ⟨s34, hI⟩ := hI
    obtain ⟨s35, hI⟩ := hI
    obtain ⟨s36, hI⟩ := hI
    obtain ⟨s37, hI⟩ := hI
    obtain ⟨rfl, hI⟩ := hI
    obtain ⟨F0, hI⟩ := hI
    obtain ⟨F1, hI⟩ := hI
    obtain ⟨F2, hI⟩ := hI
    obtain ⟨F3, hI⟩ := hI
    obtain ⟨F4, hI⟩ := hI
    obtain ⟨F5, hI⟩ := hI
    obtain ⟨F6, hI⟩ := hI
    obtain ⟨F7, hI⟩ := hI
    obtain ⟨F8, hI⟩ := hI
    obtain ⟨F9, hI⟩ := hI
    obtain ⟨F10, hI⟩ := hI
    obtain ⟨F11, hI⟩ := hI
    obtain ⟨F12, hI⟩ := hI
    obtain ⟨F13, hI⟩ := hI
    obtain ⟨F14, hI⟩ := hI
    obtain ⟨F15, hI⟩ := hI
    obtain ⟨F16, hI⟩ := hI
    obtain ⟨F17, hI⟩ := hI
    obtain ⟨F18, hI⟩ := hI
    obtain ⟨F19, hI⟩ := hI
    obtain ⟨F20, hI⟩ := hI
    obtain ⟨F21, hI⟩ := hI
    obtain ⟨F22, hI⟩ := hI
    obtain ⟨F23, hI⟩ := hI
    obtain ⟨F24, hI⟩ := hI
    obtain ⟨F25, hI⟩ := hI
    obtain ⟨F26, hI⟩ := hI
    obtain ⟨F27, hI⟩ := hI
    obtain ⟨F28, hI⟩ := hI
    obtain ⟨F29, hI⟩ := hI
    obtain ⟨F30, hI⟩ := hI
    obtain ⟨F31, hI⟩ := hI
    obtain ⟨F32, hI⟩ := hI
    obtain ⟨F33, hI⟩ := hI
    obtain ⟨F34, hI⟩ := hI
    obtain ⟨F35, hI⟩ := hI
    obtain ⟨F36, hI⟩ := hI
    obtain ⟨F37, hI⟩ := hI
    have F38 := hI; clear hI
    have hi' : i < 18 := hi
    clear hi
    rcases (by omega : i = 0 ∨ i = 1 ∨ i = 2 ∨ i = 3 ∨ i = 4 ∨ i = 5 ∨ i = 6 ∨ i = 7 ∨ i = 8 ∨ i = 9 ∨ i = 10 ∨ i = 11 ∨ i = 12 ∨ i = 13 ∨ i = 14 ∨ i = 15 ∨ i = 16 ∨ i = 17) with rfl | rfl | rfl | rfl | rfl | rfl | rfl | rfl | rfl | rfl | rfl | rfl | rfl | rfl | rfl | rfl | rfl | rfl
    · simp only [List.getElem?_toArray, List.getElem?_cons_zero, Option.some.injEq] at ho
      subst ho
      have h0 := F19; have h1 := F20; have h2 := F21; have h3 := F22; have h4 := F23; have h5 := F24; have h6 := F25; have h7 := F26; have h8 := F27; have h9 := F28; have h10 := F29; have h11 := F30; have h12 := F31; have h13 := F32; have h14 := F33; have h15 := F34; have h16 := F35; have h17 := F36; have h18 := F37; have h19 := F38
      refine wpOp_step rfl (fun K hK => ?_)
      go_simp
      refine hK _ _ ?_
      exact ⟨_, _, _, _, _, _, _, _, _, _, _, _, _, _, _, _, _, _, rfl, fun _ => rfl, lk F1, lk F2, lk F3, lk F4, lk F5, lk F6, lk F7, lk F8, lk F9, lk F10, lk F11, lk F12, lk F13, lk F14, lk F15, lk F16, lk F17, F18, F19, F20, F21, F22, F23, F24, F25, F26, F27, F28, F29, F30, F31, F32, F33, F34, F35, F36, F37, F38⟩
    · simp only [List.getElem?_toArray, List.getElem?_cons_zero, List.getElem?_cons_succ, Option.some.injEq] at ho
      subst ho
      have h0 := F19; have h1 := F20; have h2 := F21; have h3 := F22; have h4 := F23; have h5 := F24; have h6 := F25; have h7 := F26; have h8 := F27; have h9 := F28; have h10 := F29; have h11 := F30; have h12 := F31; have h13 := F32; have h14 := F33; have h15 := F34; have h16 := F35; have h17 := F36; have h18 := F37; have h19 := F38
      refine wpOp_step rfl (fun K hK => ?_)
      go_simp
      refine hK _ _ ?_
      exact ⟨_, _, _, _, _, _, _, _, _, _, _, _, _, _, _, _, _, _, rfl, lk F0, fun _ => rfl, lk F2, lk F3, lk F4, lk F5, lk F6, lk F7, lk F8, lk F9, lk F10, lk F11, lk F12, lk F13, lk F14, lk F15, lk F16, lk F17, F18, F19, F20, F21, F22, F23, F24, F25, F26, F27, F28, F29, F30, F31, F32, F33, F34, F35, F36, F37, F38⟩
    · simp only [List.getElem?_toArray, List.getElem?_cons_zero, List.getElem?_cons_succ, Option.some.injEq] at ho
      subst ho
      obtain rfl := F0 (hd ⟨0, .data⟩ (by simp) rfl)
      obtain rfl := F1 (hd ⟨1, .data⟩ (by simp) rfl)
      refine wpOp_step rfl (fun K hK => ?_)
      go_simp
      go_at_call 7
      refine (Hxy.out _ F18).mono ?_
      rintro e w' ⟨rfl, hb⟩
      refine hK _ _ ?_
      exact ⟨_, _, _, _, _, _, _, _, _, _, _, _, _, _, _, _, _, _, rfl, lk F0, lk F1, fun _ => rfl, lk F3, lk F4, lk F5, lk F6, lk F7, lk F8, lk F9, lk F10, lk F11, lk F12, lk F13, lk F14, lk F15, lk F16, lk F17, bt F18 hb, cell_call F19 hb, cell_call F20 hb, cell_call F21 hb, cell_call F22 hb, cell_call F23 hb, cell_call F24 hb, cell_call F25 hb, cell_call F26 hb, cell_call F27 hb, cell_call F28 hb, cell_call F29 hb, cell_call F30 hb, cell_call F31 hb, cell_call F32 hb, cell_call F33 hb, cell_call F34 hb, cell_call F35 hb, cell_call F36 hb, cell_call F37 hb, cell_call F38 hb⟩
    · simp only [List.getElem?_toArray, List.getElem?_cons_zero, List.getElem?_cons_succ, Option.some.injEq] at ho
      subst ho
      have h0 := F19; have h1 := F20; have h2 := F21; have h3 := F22; have h4 := F23; have h5 := F24; have h6 := F25; have h7 := F26; have h8 := F27; have h9 := F28; have h10 := F29; have h11 := F30; have h12 := F31; have h13 := F32; have h14 := F33; have h15 := F34; have h16 := F35; have h17 := F36; have h18 := F37; have h19 := F38
      refine wpOp_step rfl (fun K hK => ?_)
      go_simp
      refine hK _ _ ?_
      exact ⟨_, _, _, _, _, _, _, _, _, _, _, _, _, _, _, _, _, _, rfl, lk F0, lk F1, lk F2, fun _ => rfl, lk F4, lk F5, lk F6, lk F7, lk F8, lk F9, lk F10, lk F11, lk F12, lk F13, lk F14, lk F15, lk F16, lk F17, F18, F19, F20, F21, F22, F23, F24, F25, F26, F27, F28, F29, F30, F31, F32, F33, F34, F35, F36, F37, F38⟩
    · simp only [List.getElem?_toArray, List.getElem?_cons_zero, List.getElem?_cons_succ, Option.some.injEq] at ho
      subst ho
      have h0 := F19; have h1 := F20; have h2 := F21; have h3 := F22; have h4 := F23; have h5 := F24; have h6 := F25; have h7 := F26; have h8 := F27; have h9 := F28; have h10 := F29; have h11 := F30; have h12 := F31; have h13 := F32; have h14 := F33; have h15 := F34; have h16 := F35; have h17 := F36; have h18 := F37; have h19 := F38
      refine wpOp_step rfl (fun K hK => ?_)
      go_simp
      refine hK _ _ ?_
      exact ⟨_, _, _, _, _, _, _, _, _, _, _, _, _, _, _, _, _, _, rfl, lk F0, lk F1, lk F2, lk F3, fun _ => rfl, lk F5, lk F6, lk F7, lk F8, lk F9, lk F10, lk F11, lk F12, lk F13, lk F14, lk F15, lk F16, lk F17, F18, F19, F20, F21, F22, F23, F24, F25, F26, F27, F28, F29, F30, F31, F32, F33, F34, F35, F36, F37, F38⟩
    · simp only [List.getElem?_toArray, List.getElem?_cons_zero, List.getElem?_cons_succ, Option.some.injEq] at ho
      subst ho
      obtain rfl := F3 (hd ⟨3, .data⟩ (by simp) rfl)
      obtain rfl := F4 (hd ⟨4, .data⟩ (by simp) rfl)
      refine wpOp_step rfl (fun K hK => ?_)
      go_simp
      go_at_call 8
      refine (Hab.out _ F18).mono ?_
      rintro e w' ⟨rfl, hb⟩
      refine hK _ _ ?_
      exact ⟨_, _, _, _, _, _, _, _, _, _, _, _, _, _, _, _, _, _, rfl, lk F0, lk F1, lk F2, lk F3, lk F4, fun _ => rfl, lk F6, lk F7, lk F8, lk F9, lk F10, lk F11, lk F12, lk F13, lk F14, lk F15, lk F16, lk F17, bt F18 hb, cell_call F19 hb, cell_call F20 hb, cell_call F21 hb, cell_call F22 hb, cell_call F23 hb, cell_call F24 hb, cell_call F25 hb, cell_call F26 hb, cell_call F27 hb, cell_call F28 hb, cell_call F29 hb, cell_call F30 hb, cell_call F31 hb, cell_call F32 hb, cell_call F33 hb, cell_call F34 hb, cell_call F35 hb, cell_call F36 hb, cell_call F37 hb, cell_call F38 hb⟩
    · simp only [List.getElem?_toArray, List.getElem?_cons_zero, List.getElem?_cons_succ, Option.some.injEq] at ho
      subst ho
      obtain rfl := F2 (hd ⟨2, .data⟩ (by simp) rfl)
      obtain rfl := F5 (hd ⟨5, .data⟩ (by simp) rfl)
      refine wpOp_step rfl (fun K hK => ?_)
      go_simp
      refine hK _ _ ?_
      exact ⟨_, _, _, _, _, _, _, _, _, _, _, _, _, _, _, _, _, _, rfl, lk F0, lk F1, lk F2, lk F3, lk F4, lk F5, fun _ => rfl, lk F7, lk F8, lk F9, lk F10, lk F11, lk F12, lk F13, lk F14, lk F15, lk F16, lk F17, F18, F19, F20, F21, F22, F23, F24, F25, F26, F27, F28, F29, F30, F31, F32, F33, F34, F35, F36, F37, F38⟩
    · simp only [List.getElem?_toArray, List.getElem?_cons_zero, List.getElem?_cons_succ, Option.some.injEq] at ho
      subst ho
      obtain rfl := F6 (hd ⟨6, .data⟩ (by simp) rfl)
      refine wpOp_step rfl (fun K hK => ?_)
      go_simp
      refine hK _ _ ?_
      exact ⟨_, _, _, _, _, _, _, _, _, _, _, _, _, _, _, _, _, _, rfl, lk F0, lk F1, lk F2, lk F3, lk F4, lk F5, lk F6, fun _ => rfl, lk F8, lk F9, lk F10, lk F11, lk F12, lk F13, lk F14, lk F15, lk F16, lk F17, F18, F19, F20, F21, F22, F23, F24, F25, F26, F27, F28, F29, F30, F31, F32, F33, F34, F35, F36, F37, F38⟩
    · simp only [List.getElem?_toArray, List.getElem?_cons_zero, List.getElem?_cons_succ, Option.some.injEq] at ho
      subst ho
      obtain rfl := F7 (hd ⟨7, .guard⟩ (by simp) rfl)
      have h0 := F19; have h1 := F20; have h2 := F21; have h3 := F22; have h4 := F23; have h5 := F24; have h6 := F25; have h7 := F26; have h8 := F27; have h9 := F28; have h10 := F29; have h11 := F30; have h12 := F31; have h13 := F32; have h14 := F33; have h15 := F34; have h16 := F35; have h17 := F36; have h18 := F37; have h19 := F38
      refine wpOp_step rfl (fun K hK => ?_)
      go_simp
      refine hK _ _ ?_
      exact ⟨_, _, _, _, _, _, _, _, _, _, _, _, _, _, _, _, _, _, rfl, lk F0, lk F1, lk F2, lk F3, lk F4, lk F5, lk F6, lk F7, fun _ => rfl, lk F9, lk F10, lk F11, lk F12, lk F13, lk F14, lk F15, lk F16, lk F17, F18, F19, F20, F21, F22, F23, F24, F25, F26, F27, F28, F29, F30, F31, F32, F33, F34, F35, F36, F37, F38⟩
    · simp only [List.getElem?_toArray, List.getElem?_cons_zero, List.getElem?_cons_succ, Option.some.injEq] at ho
      subst ho
      obtain rfl := F7 (hd ⟨7, .guard⟩ (by simp) rfl)
      have h0 := F19; have h1 := F20; have h2 := F21; have h3 := F22; have h4 := F23; have h5 := F24; have h6 := F25; have h7 := F26; have h8 := F27; have h9 := F28; have h10 := F29; have h11 := F30; have h12 := F31; have h13 := F32; have h14 := F33; have h15 := F34; have h16 := F35; have h17 := F36; have h18 := F37; have h19 := F38
      refine wpOp_step rfl (fun K hK => ?_)
      go_simp
      refine hK _ _ ?_
      exact ⟨_, _, _, _, _, _, _, _, _, _, _, _, _, _, _, _, _, _, rfl, lk F0, lk F1, lk F2, lk F3, lk F4, lk F5, lk F6, lk F7, lk F8, fun _ => rfl, lk F10, lk F11, lk F12, lk F13, lk F14, lk F15, lk F16, lk F17, F18, F19, F20, F21, F22, F23, F24, F25, F26, F27, F28, F29, F30, F31, F32, F33, F34, F35, F36, F37, F38⟩
    · simp only [List.getElem?_toArray, List.getElem?_cons_zero, List.getElem?_cons_succ, Option.some.injEq] at ho
      subst ho
      obtain rfl := F8 (hd ⟨8, .data⟩ (by simp) rfl)
      obtain rfl := F9 (hd ⟨9, .data⟩ (by simp) rfl)
      obtain rfl := F7 (hd ⟨7, .guard⟩ (by simp) rfl)
      refine wpOp_step rfl (fun K hK => ?_)
      go_simp
      go_at_call 9
      refine (Hxa.out _ F18).mono ?_
      rintro e w' ⟨rfl, hb⟩
      refine hK _ _ ?_
      exact ⟨_, _, _, _, _, _, _, _, _, _, _, _, _, _, _, _, _, _, rfl, lk F0, lk F1, lk F2, lk F3, lk F4, lk F5, lk F6, lk F7, lk F8, lk F9, fun _ => rfl, lk F11, lk F12, lk F13, lk F14, lk F15, lk F16, lk F17, bt F18 hb, cell_call F19 hb, cell_call F20 hb, cell_call F21 hb, cell_call F22 hb, cell_call F23 hb, cell_call F24 hb, cell_call F25 hb, cell_call F26 hb, cell_call F27 hb, cell_call F28 hb, cell_call F29 hb, cell_call F30 hb, cell_call F31 hb, cell_call F32 hb, cell_call F33 hb, cell_call F34 hb, cell_call F35 hb, cell_call F36 hb, cell_call F37 hb, cell_call F38 hb⟩
    · simp only [List.getElem?_toArray, List.getElem?_cons_zero, List.getElem?_cons_succ, Option.some.injEq] at ho
      subst ho
      obtain rfl := F7 (hd ⟨7, .data⟩ (by simp) rfl)
      obtain rfl := F10 (hd ⟨10, .data⟩ (by simp) rfl)
      refine wpOp_step rfl (fun K hK => ?_)
      go_simp
      refine hK _ _ ?_
      exact ⟨_, _, _, _, _, _, _, _, _, _, _, _, _, _, _, _, _, _, rfl, lk F0, lk F1, lk F2, lk F3, lk F4, lk F5, lk F6, lk F7, lk F8, lk F9, lk F10, fun _ => rfl, lk F12, lk F13, lk F14, lk F15, lk F16, lk F17, F18, F19, F20, F21, F22, F23, F24, F25, F26, F27, F28, F29, F30, F31, F32, F33, F34, F35, F36, F37, F38⟩
    · simp only [List.getElem?_toArray, List.getElem?_cons_zero, List.getElem?_cons_succ, Option.some.injEq] at ho
      subst ho
      obtain rfl := F11 (hd ⟨11, .data⟩ (by simp) rfl)
      refine wpOp_step rfl (fun K hK => ?_)
      go_simp
      refine hK _ _ ?_
      exact ⟨_, _, _, _, _, _, _, _, _, _, _, _, _, _, _, _, _, _, rfl, lk F0, lk F1, lk F2, lk F3, lk F4, lk F5, lk F6, lk F7, lk F8, lk F9, lk F10, lk F11, fun _ => rfl, lk F13, lk F14, lk F15, lk F16, lk F17, F18, F19, F20, F21, F22, F23, F24, F25, F26, F27, F28, F29, F30, F31, F32, F33, F34, F35, F36, F37, F38⟩
    · simp only [List.getElem?_toArray, List.getElem?_cons_zero, List.getElem?_cons_succ, Option.some.injEq] at ho
      subst ho
      obtain rfl := F12 (hd ⟨12, .guard⟩ (by simp) rfl)
      have h0 := F19; have h1 := F20; have h2 := F21; have h3 := F22; have h4 := F23; have h5 := F24; have h6 := F25; have h7 := F26; have h8 := F27; have h9 := F28; have h10 := F29; have h11 := F30; have h12 := F31; have h13 := F32; have h14 := F33; have h15 := F34; have h16 := F35; have h17 := F36; have h18 := F37; have h19 := F38
      refine wpOp_step rfl (fun K hK => ?_)
      go_simp
      refine hK _ _ ?_
      exact ⟨_, _, _, _, _, _, _, _, _, _, _, _, _, _, _, _, _, _, rfl, lk F0, lk F1, lk F2, lk F3, lk F4, lk F5, lk F6, lk F7, lk F8, lk F9, lk F10, lk F11, lk F12, fun _ => rfl, lk F14, lk F15, lk F16, lk F17, F18, F19, F20, F21, F22, F23, F24, F25, F26, F27, F28, F29, F30, F31, F32, F33, F34, F35, F36, F37, F38⟩
    · simp only [List.getElem?_toArray, List.getElem?_cons_zero, List.getElem?_cons_succ, Option.some.injEq] at ho
      subst ho
      obtain rfl := F12 (hd ⟨12, .guard⟩ (by simp) rfl)
      have h0 := F19; have h1 := F20; have h2 := F21; have h3 := F22; have h4 := F23; have h5 := F24; have h6 := F25; have h7 := F26; have h8 := F27; have h9 := F28; have h10 := F29; have h11 := F30; have h12 := F31; have h13 := F32; have h14 := F33; have h15 := F34; have h16 := F35; have h17 := F36; have h18 := F37; have h19 := F38
      refine wpOp_step rfl (fun K hK => ?_)
      go_simp
      refine hK _ _ ?_
      exact ⟨_, _, _, _, _, _, _, _, _, _, _, _, _, _, _, _, _, _, rfl, lk F0, lk F1, lk F2, lk F3, lk F4, lk F5, lk F6, lk F7, lk F8, lk F9, lk F10, lk F11, lk F12, lk F13, fun _ => rfl, lk F15, lk F16, lk F17, F18, F19, F20, F21, F22, F23, F24, F25, F26, F27, F28, F29, F30, F31, F32, F33, F34, F35, F36, F37, F38⟩
    · simp only [List.getElem?_toArray, List.getElem?_cons_zero, List.getElem?_cons_succ, Option.some.injEq] at ho
      subst ho
      obtain rfl := F13 (hd ⟨13, .data⟩ (by simp) rfl)
      obtain rfl := F14 (hd ⟨14, .data⟩ (by simp) rfl)
      obtain rfl := F12 (hd ⟨12, .guard⟩ (by simp) rfl)
      refine wpOp_step rfl (fun K hK => ?_)
      go_simp
      go_at_call 9
      refine (Hyb.out _ F18).mono ?_
      rintro e w' ⟨rfl, hb⟩
      refine hK _ _ ?_
      exact ⟨_, _, _, _, _, _, _, _, _, _, _, _, _, _, _, _, _, _, rfl, lk F0, lk F1, lk F2, lk F3, lk F4, lk F5, lk F6, lk F7, lk F8, lk F9, lk F10, lk F11, lk F12, lk F13, lk F14, fun _ => rfl, lk F16, lk F17, bt F18 hb, cell_call F19 hb, cell_call F20 hb, cell_call F21 hb, cell_call F22 hb, cell_call F23 hb, cell_call F24 hb, cell_call F25 hb, cell_call F26 hb, cell_call F27 hb, cell_call F28 hb, cell_call F29 hb, cell_call F30 hb, cell_call F31 hb, cell_call F32 hb, cell_call F33 hb, cell_call F34 hb, cell_call F35 hb, cell_call F36 hb, cell_call F37 hb, cell_call F38 hb⟩
    · simp only [List.getElem?_toArray, List.getElem?_cons_zero, List.getElem?_cons_succ, Option.some.injEq] at ho
      subst ho
      obtain rfl := F12 (hd ⟨12, .data⟩ (by simp) rfl)
      obtain rfl := F15 (hd ⟨15, .data⟩ (by simp) rfl)
      refine wpOp_step rfl (fun K hK => ?_)
      go_simp
      refine hK _ _ ?_
      exact ⟨_, _, _, _, _, _, _, _, _, _, _, _, _, _, _, _, _, _, rfl, lk F0, lk F1, lk F2, lk F3, lk F4, lk F5, lk F6, lk F7, lk F8, lk F9, lk F10, lk F11, lk F12, lk F13, lk F14, lk F15, fun _ => rfl, lk F17, F18, F19, F20, F21, F22, F23, F24, F25, F26, F27, F28, F29, F30, F31, F32, F33, F34, F35, F36, F37, F38⟩
    · simp only [List.getElem?_toArray, List.getElem?_cons_zero, List.getElem?_cons_succ, Option.some.injEq] at ho
      subst ho
      obtain rfl := F16 (hd ⟨16, .data⟩ (by simp) rfl)
      refine wpOp_step rfl (fun K hK => ?_)
      go_simp
      refine hK _ _ ?_
      exact ⟨_, _, _, _, _, _, _, _, _, _, _, _, _, _, _, _, _, _, rfl, lk F0, lk F1, lk F2, lk F3, lk F4, lk F5, lk F6, lk F7, lk F8, lk F9, lk F10, lk F11, lk F12, lk F13, lk F14, lk F15, lk F16, fun _ => rfl, F18, F19, F20, F21, F22, F23, F24, F25, F26, F27, F28, F29, F30, F31, F32, F33, F34, F35, F36, F37, F38⟩
  · intro listed A w hall hI
    unfold RnI at hI
    obtain ⟨s4, hI⟩ := hI
    obtain ⟨s21, hI⟩ := hI
    obtain ⟨s22, hI⟩ := hI
    obtain ⟨s23, hI⟩ := hI
    obtain ⟨s24, hI⟩ := hI
    obtain ⟨s25, hI⟩ := hI
    obtain ⟨s26, hI⟩ := hI
    obtain ⟨s27, hI⟩ := hI
    obtain ⟨s28, hI⟩ := hI
    obtain ⟨s29, hI⟩ := hI
    obtain ⟨s30, hI⟩ := hI
    obtain ⟨s31, hI⟩ := hI
    obtain ⟨s32, hI⟩ := hI
    obtain ⟨s33, hI⟩ := hI
    obtain ⟨s34, hI⟩ := hI
    obtain ⟨s35, hI⟩ := hI
    obtain ⟨s36, hI⟩ := hI
    obtain ⟨s37, hI⟩ := hI
    obtain ⟨rfl, hI⟩ := hI
    obtain ⟨F0, hI⟩ := hI
    obtain ⟨F1, hI⟩ := hI
    obtain ⟨F2, hI⟩ := hI
    obtain ⟨F3, hI⟩ := hI
    obtain ⟨F4, hI⟩ := hI
    obtain ⟨F5, hI⟩ := hI
    obtain ⟨F6, hI⟩ := hI
    obtain ⟨F7, hI⟩ := hI
    obtain ⟨F8, hI⟩ := hI
    obtain ⟨F9, hI⟩ := hI
    obtain ⟨F10, hI⟩ := hI
    obtain ⟨F11, hI⟩ := hI
    obtain ⟨F12, hI⟩ := hI
    obtain ⟨F13, hI⟩ := hI
    obtain ⟨F14, hI⟩ := hI
    obtain ⟨F15, hI⟩ := hI
    obtain ⟨F16, hI⟩ := hI
    obtain ⟨F17, hI⟩ := hI
    obtain ⟨F18, hI⟩ := hI
    obtain ⟨F19, hI⟩ := hI
    obtain ⟨F20, hI⟩ := hI
    obtain ⟨F21, hI⟩ := hI
    obtain ⟨F22, hI⟩ := hI
    obtain ⟨F23, hI⟩ := hI
    obtain ⟨F24, hI⟩ := hI
    obtain ⟨F25, hI⟩ := hI
    obtain ⟨F26, hI⟩ := hI
    obtain ⟨F27, hI⟩ := hI
    obtain ⟨F28, hI⟩ := hI
    obtain ⟨F29, hI⟩ := hI
    obtain ⟨F30, hI⟩ := hI
    obtain ⟨F31, hI⟩ := hI
    obtain ⟨F32, hI⟩ := hI
    obtain ⟨F33, hI⟩ := hI
    obtain ⟨F34, hI⟩ := hI
    obtain ⟨F35, hI⟩ := hI
    obtain ⟨F36, hI⟩ := hI
    obtain ⟨F37, hI⟩ := hI
    have F38 := hI; clear hI
    obtain rfl := F0 (hall 0 (by decide))
    obtain rfl := F1 (hall 1 (by decide))
    obtain rfl := F2 (hall 2 (by decide))
    obtain rfl := F3 (hall 3 (by decide))
    obtain rfl := F4 (hall 4 (by decide))
    obtain rfl := F5 (hall 5 (by decide))
    obtain rfl := F6 (hall 6 (by decide))
    obtain rfl := F7 (hall 7 (by decide))
    obtain rfl := F8 (hall 8 (by decide))
    obtain rfl := F9 (hall 9 (by decide))
    obtain rfl := F10 (hall 10 (by decide))
    obtain rfl := F11 (hall 11 (by decide))
    obtain rfl := F12 (hall 12 (by decide))
    obtain rfl := F13 (hall 13 (by decide))
    obtain rfl := F14 (hall 14 (by decide))
    obtain rfl := F15 (hall 15 (by decide))
    obtain rfl := F16 (hall 16 (by decide))
    obtain rfl := F17 (hall 17 (by decide))
    have HB := F18
    have Q0 := F19
    have Q1 := F20
    have Q2 := F21
    have Q3 := F22
    have Q4 := F23
    have Q5 := F24
    have Q6 := F25
    have Q7 := F26
    have Q8 := F27
    have Q9 := F28
    have Q10 := F29
    have Q11 := F30
    have Q12 := F31
    have Q13 := F32
    have Q14 := F33
    have Q15 := F34
    have Q16 := F35
    have Q17 := F36
    have Q18 := F37
    have Q19 := F38
    exact hQ _ trivial HB
end Go.Proofs.YtnkodafhjcjpjaaDoor
