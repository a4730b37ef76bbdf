/- The statement TypesMatch: its walk. No condition beyond what the theorems state. -/
import Derived.Test.YtjpopmgnhgancaaDoorMdD
import Derived.Test.YtjpopmgnhgancaaDoorMdC
import Derived.Test.YtjpopmgnhgancaaDoorKdK
import Derived.Test.YtjpopmgnhgancaaDoorKdP
import Derived.Test.YtjpopmgnhgancaaDoorCalls
namespace Go.Proofs.YtjpopmgnhgancaaDoor
open Go.RowKit Go.Lib
set_option maxRecDepth 100000
set_option maxHeartbeats 16000000
def MrI (w0 : World) (ad : Addr) (gt gk sb ni ka j zi zo ki ko : Nat) (zn kn : List UInt8) (xm xk xn xc : Int) (xs : ByteArray) (xb r : Bool) (c0 c1 c3 c5 c6 c8 c9 c12 c13 c14 c15 c16 c17 c18 c19 c20 c21 c22 c23 c24 c25 c26 c27 c28 c29 c30 c31 c32 c33 c34 c35 c36 c37 c38 c39 c40 c41 c42 c43 c44 c45 c46 c47 c48 c49 c50 c51 c52 c53 c54 c55 c56 c57 c58 c59 c60 c61 c62 c63 c64 c65 c66 c67 c68 c69 c70 c71 c72 c73 c74 c75 : Value) (listed : Array Bool) (A : Act) (w : World) : Prop := ∃ (s76 s77 s78 s79 s80 s81 s82 s83 s84 s85 s86 s87 s88 s89 s90 s91 s92 s93 s94 s95 s96 s97 s98 s99 s100 s101 : Value), A = { tmps := #[c0, c1, .slice (some ad) ni ka, c3, .pointer (some ⟨gt, 0, none⟩), c5, c6, .pointer (some ⟨sb, 0, none⟩), c8, c9, .int .i64 (j : Nat), .pointer (some ⟨gk, 0, none⟩), c12, c13, c14, c15, c16, c17, c18, c19, c20, c21, c22, c23, c24, c25, c26, c27, c28, c29, c30, c31, c32, c33, c34, c35, c36, c37, c38, c39, c40, c41, c42, c43, c44, c45, c46, c47, c48, c49, c50, c51, c52, c53, c54, c55, c56, c57, c58, c59, c60, c61, c62, c63, c64, c65, c66, c67, c68, c69, c70, c71, c72, c73, c74, c75, s76, s77, s78, s79, s80, s81, s82, s83, s84, s85, s86, s87, s88, s89, s90, s91, s92, s93, s94, s95, s96, s97, s98, s99, s100, s101], defers := [] } ∧
  (listed.getD 0 false = true → s76 = .pointer (some ⟨sb, 0, none⟩)) ∧
  (listed.getD 1 false = true → s77 = .slice (some ad) ni ka) ∧
  (listed.getD 2 false = true → s78 = .int .i64 (j : Nat)) ∧
  (listed.getD 3 false = true → s79 = .pointer (some (ad.add (j * 6)))) ∧
  (listed.getD 4 false = true → s80 = .agg #[.int .i64 xm, .int .i64 xk, .int .i64 xn, .int .i64 xc, .string xs, .bool xb]) ∧
  (listed.getD 5 false = true → s81 = .agg #[.int .i64 (ki : Nat), .string (ba' kn), .int .i64 (ko : Nat)]) ∧
  (listed.getD 6 false = true → s82 = .agg #[.int .i64 (ki : Nat), .string (ba' kn), .int .i64 (ko : Nat)]) ∧
  (listed.getD 7 false = true → s83 = .bool false) ∧
  (listed.getD 8 false = true → s84 = .bool false) ∧
  (listed.getD 9 false = true → s85 = .pointer (some ⟨sb, 0, none⟩)) ∧
  (listed.getD 10 false = true → s86 = .slice (some ad) ni ka) ∧
  (listed.getD 11 false = true → s87 = .int .i64 (j : Nat)) ∧
  (listed.getD 12 false = true → s88 = .pointer (some (ad.add (j * 6)))) ∧
  (listed.getD 13 false = true → s89 = .agg #[.int .i64 xm, .int .i64 xk, .int .i64 xn, .int .i64 xc, .string xs, .bool xb]) ∧
  (listed.getD 14 false = true → s90 = .agg #[.int .i64 (zi : Nat), .string (ba' zn), .int .i64 (zo : Nat)]) ∧
  (listed.getD 15 false = true → s91 = .bool r) ∧
  (listed.getD 16 false = true → s92 = .pointer (some ⟨gt, 0, none⟩)) ∧
  (listed.getD 17 false = true → s93 = .int .i64 (zi : Nat)) ∧
  (listed.getD 18 false = true → s94 = .bool true) ∧
  (listed.getD 19 false = true → s95 = .bool true) ∧
  (listed.getD 20 false = true → s96 = .agg #[.int .i64 (ki : Nat), .string (ba' kn), .int .i64 (ko : Nat)]) ∧
  (listed.getD 21 false = true → s97 = .agg #[.int .i64 (zi : Nat), .string (ba' zn), .int .i64 (zo : Nat)]) ∧
  (listed.getD 22 false = true → s98 = .bool r) ∧
  (listed.getD 23 false = true → s99 = .bool r) ∧
  (listed.getD 24 false = true → s100 = .bool false) ∧
  (listed.getD 25 false = true → s101 = .bool false) ∧
  Below w0.heap.size w0 w ∧
  w.cell? ⟨gt, 0, none⟩ = some (.int .i64 (zi : Nat)) ∧
  w.cell? ⟨gt, 1, none⟩ = some (.string (ba' zn)) ∧
  w.cell? ⟨gt, 2, none⟩ = some (.int .i64 (zo : Nat)) ∧
  w.cell? ⟨gk, 0, none⟩ = some (.int .i64 (ki : Nat)) ∧
  w.cell? ⟨gk, 1, none⟩ = some (.string (ba' kn)) ∧
  w.cell? ⟨gk, 2, none⟩ = some (.int .i64 (ko : Nat))
set_option maxRecDepth 100000 in
set_option maxHeartbeats 16000000 in
theorem Mr_region (ad : Addr) (gt gk sb ni ka j zi zo ki ko : Nat) (zn kn : List UInt8) (xm xk xn xc : Int) (xs : ByteArray) (xb r : Bool) {x76 x77 x78 x79 x80 x81 x82 x83 x84 x85 x86 x87 x88 x89 x90 x91 x92 x93 x94 x95 x96 x97 x98 x99 x100 x101 : Value} {c0 c1 c3 c5 c6 c8 c9 c12 c13 c14 c15 c16 c17 c18 c19 c20 c21 c22 c23 c24 c25 c26 c27 c28 c29 c30 c31 c32 c33 c34 c35 c36 c37 c38 c39 c40 c41 c42 c43 c44 c45 c46 c47 c48 c49 c50 c51 c52 c53 c54 c55 c56 c57 c58 c59 c60 c61 c62 c63 c64 c65 c66 c67 c68 c69 c70 c71 c72 c73 c74 c75 : Value} (w0 : World) {W : World} {Q : Exit → Act → World → Prop} (hb0 : Below w0.heap.size w0 W) (C0 : W.cell? ⟨gt, 0, none⟩ = some (.int .i64 (zi : Nat))) (C1 : W.cell? ⟨gt, 1, none⟩ = some (.string (ba' zn))) (C2 : W.cell? ⟨gt, 2, none⟩ = some (.int .i64 (zo : Nat))) (C3 : W.cell? ⟨gk, 0, none⟩ = some (.int .i64 (ki : Nat))) (C4 : W.cell? ⟨gk, 1, none⟩ = some (.string (ba' kn))) (C5 : W.cell? ⟨gk, 2, none⟩ = some (.int .i64 (ko : Nat)))  (Y0 : Hid (∀ w1, Below w0.heap.size w0 w1 → w1.cell? (ad.add (j * 6)) = some (.int .i64 xm))) (Y1 : Hid (∀ w1, Below w0.heap.size w0 w1 → w1.cell? { block := (ad.add (j * 6)).block, off := (ad.add (j * 6)).off + 1 } = some (.int .i64 xk))) (Y2 : Hid (∀ w1, Below w0.heap.size w0 w1 → w1.cell? { block := (ad.add (j * 6)).block, off := (ad.add (j * 6)).off + 2 } = some (.int .i64 xn))) (Y3 : Hid (∀ w1, Below w0.heap.size w0 w1 → w1.cell? { block := (ad.add (j * 6)).block, off := (ad.add (j * 6)).off + 3 } = some (.int .i64 xc))) (Y4 : Hid (∀ w1, Below w0.heap.size w0 w1 → w1.cell? { block := (ad.add (j * 6)).block, off := (ad.add (j * 6)).off + 4 } = some (.string xs))) (Y5 : Hid (∀ w1, Below w0.heap.size w0 w1 → w1.cell? { block := (ad.add (j * 6)).block, off := (ad.add (j * 6)).off + 5 } = some (.bool xb))) (hj : j < ni) (_hj' : decide (j < ni) = true) (H1 : Hid (∀ w1, Below w0.heap.size w0 w1 → Calls Tryd.prog 16 #[.pointer (some ⟨sb, 0, none⟩), .agg #[.int .i64 xm, .int .i64 xk, .int .i64 xn, .int .i64 xc, .string xs, .bool xb]] w1 fun e w' => e = .returned (.agg #[.int .i64 (ki : Nat), .string (ba' kn), .int .i64 (ko : Nat)]) ∧ Below w1.heap.size w1 w')) (H2 : Hid (∀ w1, Below w0.heap.size w0 w1 → Calls Tryd.prog 17 #[.pointer (some ⟨sb, 0, none⟩), .agg #[.int .i64 xm, .int .i64 xk, .int .i64 xn, .int .i64 xc, .string xs, .bool xb], .agg #[.int .i64 (zi : Nat), .string (ba' zn), .int .i64 (zo : Nat)]] w1 fun e w' => e = .returned (.bool r) ∧ Below w1.heap.size w1 w')) (H3 : Hid (∀ w1, Below w0.heap.size w0 w1 → Calls Tryd.prog 18 #[.agg #[.int .i64 (ki : Nat), .string (ba' kn), .int .i64 (ko : Nat)], .agg #[.int .i64 (zi : Nat), .string (ba' zn), .int .i64 (zo : Nat)]] w1 fun e w' => e = .returned (.bool r) ∧ Below w1.heap.size w1 w')) (_ht : ¬ zi = 0) (ht1 : ((zi : Int) != 0) = true) (_ht2 : (zi = 0) = False)
    (hQ : ∀ (w : World) , (True) → Below w0.heap.size w0 w → Q .normal { tmps := #[c0, c1, .slice (some ad) ni ka, c3, .pointer (some ⟨gt, 0, none⟩), c5, c6, .pointer (some ⟨sb, 0, none⟩), c8, c9, .int .i64 (j : Nat), .pointer (some ⟨gk, 0, none⟩), c12, c13, c14, c15, c16, c17, c18, c19, c20, c21, c22, c23, c24, c25, c26, c27, c28, c29, c30, c31, c32, c33, c34, c35, c36, c37, c38, c39, c40, c41, c42, c43, c44, c45, c46, c47, c48, c49, c50, c51, c52, c53, c54, c55, c56, c57, c58, c59, c60, c61, c62, c63, c64, c65, c66, c67, c68, c69, c70, c71, c72, c73, c74, c75, .pointer (some ⟨sb, 0, none⟩), .slice (some ad) ni ka, .int .i64 (j : Nat), .pointer (some (ad.add (j * 6))), .agg #[.int .i64 xm, .int .i64 xk, .int .i64 xn, .int .i64 xc, .string xs, .bool xb], .agg #[.int .i64 (ki : Nat), .string (ba' kn), .int .i64 (ko : Nat)], .agg #[.int .i64 (ki : Nat), .string (ba' kn), .int .i64 (ko : Nat)], .bool false, .bool false, .pointer (some ⟨sb, 0, none⟩), .slice (some ad) ni ka, .int .i64 (j : Nat), .pointer (some (ad.add (j * 6))), .agg #[.int .i64 xm, .int .i64 xk, .int .i64 xn, .int .i64 xc, .string xs, .bool xb], .agg #[.int .i64 (zi : Nat), .string (ba' zn), .int .i64 (zo : Nat)], .bool r, .pointer (some ⟨gt, 0, none⟩), .int .i64 (zi : Nat), .bool true, .bool true, .agg #[.int .i64 (ki : Nat), .string (ba' kn), .int .i64 (ko : Nat)], .agg #[.int .i64 (zi : Nat), .string (ba' zn), .int .i64 (zo : Nat)], .bool r, .bool r, .bool false, .bool false], defers := [] } w) :
    Code.wp Tryd.prog ((Tryd.f3.body.bind (regionOf 14)).getD .skip) Q { tmps := #[c0, c1, .slice (some ad) ni ka, c3, .pointer (some ⟨gt, 0, none⟩), c5, c6, .pointer (some ⟨sb, 0, none⟩), c8, c9, .int .i64 (j : Nat), .pointer (some ⟨gk, 0, none⟩), c12, c13, c14, c15, c16, c17, c18, c19, c20, c21, c22, c23, c24, c25, c26, c27, c28, c29, c30, c31, c32, c33, c34, c35, c36, c37, c38, c39, c40, c41, c42, c43, c44, c45, c46, c47, c48, c49, c50, c51, c52, c53, c54, c55, c56, c57, c58, c59, c60, c61, c62, c63, c64, c65, c66, c67, c68, c69, c70, c71, c72, c73, c74, c75, x76, x77, x78, x79, x80, x81, x82, x83, x84, x85, x86, x87, x88, x89, x90, x91, x92, x93, x94, x95, x96, x97, x98, x99, x100, x101], defers := [] } W := by
  conv => arg 2; whnf
  refine wp_region_inv (by kernel_rfl) (by kernel_rfl) (MrI w0 ad gt gk sb ni ka j zi zo ki ko zn kn xm xk xn xc xs xb r c0 c1 c3 c5 c6 c8 c9 c12 c13 c14 c15 c16 c17 c18 c19 c20 c21 c22 c23 c24 c25 c26 c27 c28 c29 c30 c31 c32 c33 c34 c35 c36 c37 c38 c39 c40 c41 c42 c43 c44 c45 c46 c47 c48 c49 c50 c51 c52 c53 c54 c55 c56 c57 c58 c59 c60 c61 c62 c63 c64 c65 c66 c67 c68 c69 c70 c71 c72 c73 c74 c75) ?_ ?_ ?_
  · exact ⟨_, _, _, _, _, _, _, _, _, _, _, _, _, _, _, _, _, _, _, _, _, _, _, _, _, _, rfl, fun h => absurd h l0, fun h => absurd h l0, fun h => absurd h l0, fun h => absurd h l0, fun h => absurd h l0, fun h => absurd h l0, fun h => absurd h l0, fun h => absurd h l0, fun h => absurd h l0, fun h => absurd h l0, fun h => absurd h l0, fun h => absurd h l0, fun h => absurd h l0, fun h => absurd h l0, fun h => absurd h l0, fun h => absurd h l0, fun h => absurd h l0, fun h => absurd h l0, fun h => absurd h l0, fun h => absurd h l0, fun h => absurd h l0, fun h => absurd h l0, fun h => absurd h l0, fun h => absurd h l0, fun h => absurd h l0, fun h => absurd h l0, bdr hb0, C0, C1, C2, C3, C4, C5⟩
  · intro i o listed A w hi ho hd hn hI
    unfold MrI at hI
    obtain ⟨s76, hI⟩ := hI
    obtain ⟨s77, hI⟩ := hI
    obtain ⟨s78, hI⟩ := hI
    obtain ⟨s79, hI⟩ := hI
    obtain ⟨s80, hI⟩ := hI
    obtain ⟨s81, hI⟩ := hI
    obtain ⟨s82, hI⟩ := hI
    obtain ⟨s83, hI⟩ := hI
    obtain ⟨s84, hI⟩ := hI
    obtain ⟨s85, hI⟩ := hI
    obtain ⟨s86, hI⟩ := hI
    obtain ⟨s87, hI⟩ := hI
    obtain ⟨s88, hI⟩ := hI
    obtain ⟨s89, hI⟩ := hI
    obtain ⟨s90, hI⟩ := hI
    obtain ⟨s91, hI⟩ := hI
    obtain ⟨s92, hI⟩ := hI
    obtain ⟨s93, hI⟩ := hI
    obtain ⟨s94, hI⟩ := hI
    obtain ⟨s95, hI⟩ := hI
    obtain ⟨s96, hI⟩ := hI
    obtain ⟨s97, hI⟩ := hI
    obtain ⟨s98, hI⟩ := hI
    obtain ⟨s99, hI⟩ := hI
    obtain ⟨s100, hI⟩ := hI
    obtain ⟨s101, hI⟩ := hI
    obtain ⟨rfl, hI⟩ := hI
    obtain ⟨F0, hI⟩ := hI
    obtain ⟨F1, hI⟩ := hI
    obtain ⟨F2, hI⟩ := hI
    obtain ⟨F3, hI⟩ := hI
    obtain ⟨F4, hI⟩ := hI
    obtain ⟨F5, hI⟩ := hI
    obtain ⟨F6, hI⟩ := hI
    obtain ⟨F7, hI⟩ := hI
    obtain ⟨F8, hI⟩ := hI
    obtain ⟨F9, hI⟩ := hI
    obtain ⟨F10, hI⟩ := hI
    obtain ⟨F11, hI⟩ := hI
    obtain ⟨F12, hI⟩ := hI
    obtain ⟨F13, hI⟩ := hI
    obtain ⟨F14, hI⟩ := hI
    obtain ⟨F15, hI⟩ := hI
    obtain ⟨F16, hI⟩ := hI
    obtain ⟨F17, hI⟩ := hI
    obtain ⟨F18, hI⟩ := hI
    obtain ⟨F19, hI⟩ := hI
    obtain ⟨F20, hI⟩ := hI
    obtain ⟨F21, hI⟩ := hI
    obtain ⟨F22, hI⟩ := hI
    obtain ⟨F23, hI⟩ := hI
    obtain ⟨F24, hI⟩ := hI
    obtain ⟨F25, hI⟩ := hI
    obtain ⟨F26, hI⟩ := hI
    obtain ⟨F27, hI⟩ := hI
    obtain ⟨F28, hI⟩ := hI
    obtain ⟨F29, hI⟩ := hI
    obtain ⟨F30, hI⟩ := hI
    obtain ⟨F31, hI⟩ := hI
    have F32 := hI; clear hI
    have hi' : i < 26 := hi
    clear hi
    rcases (by omega : i = 0 ∨ i = 1 ∨ i = 2 ∨ i = 3 ∨ i = 4 ∨ i = 5 ∨ i = 6 ∨ i = 7 ∨ i = 8 ∨ i = 9 ∨ i = 10 ∨ i = 11 ∨ i = 12 ∨ i = 13 ∨ i = 14 ∨ i = 15 ∨ i = 16 ∨ i = 17 ∨ i = 18 ∨ i = 19 ∨ i = 20 ∨ i = 21 ∨ i = 22 ∨ i = 23 ∨ i = 24 ∨ i = 25) with rfl | rfl | rfl | rfl | rfl | rfl | rfl | rfl | rfl | rfl | rfl | rfl | rfl | rfl | rfl | rfl | rfl | rfl | rfl | rfl | rfl | rfl | rfl | rfl | rfl | rfl
    · simp only [List.getElem?_toArray, List.getElem?_cons_zero, Option.some.injEq] at ho
      subst ho
      refine wpOp_step rfl (fun K hK => ?_)
      go_simp
      refine hK _ _ ?_
      exact ⟨_, _, _, _, _, _, _, _, _, _, _, _, _, _, _, _, _, _, _, _, _, _, _, _, _, _, rfl, fun _ => rfl, lk F1, lk F2, lk F3, lk F4, lk F5, lk F6, lk F7, lk F8, lk F9, lk F10, lk F11, lk F12, lk F13, lk F14, lk F15, lk F16, lk F17, lk F18, lk F19, lk F20, lk F21, lk F22, lk F23, lk F24, lk F25, F26, F27, F28, F29, F30, F31, F32⟩
    · simp only [List.getElem?_toArray, List.getElem?_cons_zero, List.getElem?_cons_succ, Option.some.injEq] at ho
      subst ho
      refine wpOp_step rfl (fun K hK => ?_)
      go_simp
      refine hK _ _ ?_
      exact ⟨_, _, _, _, _, _, _, _, _, _, _, _, _, _, _, _, _, _, _, _, _, _, _, _, _, _, rfl, lk F0, fun _ => rfl, lk F2, lk F3, lk F4, lk F5, lk F6, lk F7, lk F8, lk F9, lk F10, lk F11, lk F12, lk F13, lk F14, lk F15, lk F16, lk F17, lk F18, lk F19, lk F20, lk F21, lk F22, lk F23, lk F24, lk F25, F26, F27, F28, F29, F30, F31, F32⟩
    · simp only [List.getElem?_toArray, List.getElem?_cons_zero, List.getElem?_cons_succ, Option.some.injEq] at ho
      subst ho
      refine wpOp_step rfl (fun K hK => ?_)
      go_simp
      refine hK _ _ ?_
      exact ⟨_, _, _, _, _, _, _, _, _, _, _, _, _, _, _, _, _, _, _, _, _, _, _, _, _, _, rfl, lk F0, lk F1, fun _ => rfl, lk F3, lk F4, lk F5, lk F6, lk F7, lk F8, lk F9, lk F10, lk F11, lk F12, lk F13, lk F14, lk F15, lk F16, lk F17, lk F18, lk F19, lk F20, lk F21, lk F22, lk F23, lk F24, lk F25, F26, F27, F28, F29, F30, F31, F32⟩
    · simp only [List.getElem?_toArray, List.getElem?_cons_zero, List.getElem?_cons_succ, Option.some.injEq] at ho
      subst ho
      obtain rfl := F1 (hd ⟨1, .data⟩ (by simp) rfl)
      obtain rfl := F2 (hd ⟨2, .data⟩ (by simp) rfl)
      refine wpOp_step rfl (fun K hK => ?_)
      go_simp
      refine hK _ _ ?_
      exact ⟨_, _, _, _, _, _, _, _, _, _, _, _, _, _, _, _, _, _, _, _, _, _, _, _, _, _, rfl, lk F0, lk F1, lk F2, fun _ => rfl, lk F4, lk F5, lk F6, lk F7, lk F8, lk F9, lk F10, lk F11, lk F12, lk F13, lk F14, lk F15, lk F16, lk F17, lk F18, lk F19, lk F20, lk F21, lk F22, lk F23, lk F24, lk F25, F26, F27, F28, F29, F30, F31, F32⟩
    · simp only [List.getElem?_toArray, List.getElem?_cons_zero, List.getElem?_cons_succ, Option.some.injEq] at ho
      subst ho
      obtain rfl := F3 (hd ⟨3, .data⟩ (by simp) rfl)
      have h0 := Y0.out _ F26; have h1 := Y1.out _ F26; have h2 := Y2.out _ F26; have h3 := Y3.out _ F26; have h4 := Y4.out _ F26; have h5 := Y5.out _ F26
      refine wpOp_step rfl (fun K hK => ?_)
      go_simp
      refine hK _ _ ?_
      exact ⟨_, _, _, _, _, _, _, _, _, _, _, _, _, _, _, _, _, _, _, _, _, _, _, _, _, _, rfl, lk F0, lk F1, lk F2, lk F3, fun _ => rfl, lk F5, lk F6, lk F7, lk F8, lk F9, lk F10, lk F11, lk F12, lk F13, lk F14, lk F15, lk F16, lk F17, lk F18, lk F19, lk F20, lk F21, lk F22, lk F23, lk F24, lk F25, F26, F27, F28, F29, F30, F31, F32⟩
    · simp only [List.getElem?_toArray, List.getElem?_cons_zero, List.getElem?_cons_succ, Option.some.injEq] at ho
      subst ho
      obtain rfl := F0 (hd ⟨0, .data⟩ (by simp) rfl)
      obtain rfl := F4 (hd ⟨4, .data⟩ (by simp) rfl)
      refine wpOp_step rfl (fun K hK => ?_)
      go_simp
      go_at_call 16
      refine (H1.out _ F26).mono ?_
      rintro e w' ⟨rfl, hb⟩
      refine hK _ _ ?_
      exact ⟨_, _, _, _, _, _, _, _, _, _, _, _, _, _, _, _, _, _, _, _, _, _, _, _, _, _, rfl, lk F0, lk F1, lk F2, lk F3, lk F4, fun _ => rfl, lk F6, lk F7, lk F8, lk F9, lk F10, lk F11, lk F12, lk F13, lk F14, lk F15, lk F16, lk F17, lk F18, lk F19, lk F20, lk F21, lk F22, lk F23, lk F24, lk F25, bt F26 hb, cell_call F27 hb, cell_call F28 hb, cell_call F29 hb, cell_call F30 hb, cell_call F31 hb, cell_call F32 hb⟩
    · simp only [List.getElem?_toArray, List.getElem?_cons_zero, List.getElem?_cons_succ, Option.some.injEq] at ho
      subst ho
      have h0 := F30; have h1 := F31; have h2 := F32
      refine wpOp_step rfl (fun K hK => ?_)
      go_simp
      refine hK _ _ ?_
      exact ⟨_, _, _, _, _, _, _, _, _, _, _, _, _, _, _, _, _, _, _, _, _, _, _, _, _, _, rfl, lk F0, lk F1, lk F2, lk F3, lk F4, lk F5, fun _ => rfl, lk F7, lk F8, lk F9, lk F10, lk F11, lk F12, lk F13, lk F14, lk F15, lk F16, lk F17, lk F18, lk F19, lk F20, lk F21, lk F22, lk F23, lk F24, lk F25, F26, F27, F28, F29, F30, F31, F32⟩
    · simp only [List.getElem?_toArray, List.getElem?_cons_zero, List.getElem?_cons_succ, Option.some.injEq] at ho
      subst ho
      obtain rfl := F5 (hd ⟨5, .data⟩ (by simp) rfl)
      obtain rfl := F6 (hd ⟨6, .data⟩ (by simp) rfl)
      refine wpOp_step rfl (fun K hK => ?_)
      go_simp
      refine hK _ _ ?_
      exact ⟨_, _, _, _, _, _, _, _, _, _, _, _, _, _, _, _, _, _, _, _, _, _, _, _, _, _, rfl, lk F0, lk F1, lk F2, lk F3, lk F4, lk F5, lk F6, fun _ => rfl, lk F8, lk F9, lk F10, lk F11, lk F12, lk F13, lk F14, lk F15, lk F16, lk F17, lk F18, lk F19, lk F20, lk F21, lk F22, lk F23, lk F24, lk F25, F26, F27, F28, F29, F30, F31, F32⟩
    · simp only [List.getElem?_toArray, List.getElem?_cons_zero, List.getElem?_cons_succ, Option.some.injEq] at ho
      subst ho
      obtain rfl := F7 (hd ⟨7, .data⟩ (by simp) rfl)
      refine wpOp_step rfl (fun K hK => ?_)
      go_simp
      refine hK _ _ ?_
      exact ⟨_, _, _, _, _, _, _, _, _, _, _, _, _, _, _, _, _, _, _, _, _, _, _, _, _, _, rfl, lk F0, lk F1, lk F2, lk F3, lk F4, lk F5, lk F6, lk F7, fun _ => rfl, lk F9, lk F10, lk F11, lk F12, lk F13, lk F14, lk F15, lk F16, lk F17, lk F18, lk F19, lk F20, lk F21, lk F22, lk F23, lk F24, lk F25, F26, F27, F28, F29, F30, F31, F32⟩
    · simp only [List.getElem?_toArray, List.getElem?_cons_zero, List.getElem?_cons_succ, Option.some.injEq] at ho
      subst ho
      obtain rfl := F8 (hd ⟨8, .guard⟩ (by simp) rfl)
      refine wpOp_step rfl (fun K hK => ?_)
      go_simp
      refine hK _ _ ?_
      exact ⟨_, _, _, _, _, _, _, _, _, _, _, _, _, _, _, _, _, _, _, _, _, _, _, _, _, _, rfl, lk F0, lk F1, lk F2, lk F3, lk F4, lk F5, lk F6, lk F7, lk F8, fun _ => rfl, lk F10, lk F11, lk F12, lk F13, lk F14, lk F15, lk F16, lk F17, lk F18, lk F19, lk F20, lk F21, lk F22, lk F23, lk F24, lk F25, F26, F27, F28, F29, F30, F31, F32⟩
    · simp only [List.getElem?_toArray, List.getElem?_cons_zero, List.getElem?_cons_succ, Option.some.injEq] at ho
      subst ho
      obtain rfl := F8 (hd ⟨8, .guard⟩ (by simp) rfl)
      refine wpOp_step rfl (fun K hK => ?_)
      go_simp
      refine hK _ _ ?_
      exact ⟨_, _, _, _, _, _, _, _, _, _, _, _, _, _, _, _, _, _, _, _, _, _, _, _, _, _, rfl, lk F0, lk F1, lk F2, lk F3, lk F4, lk F5, lk F6, lk F7, lk F8, lk F9, fun _ => rfl, lk F11, lk F12, lk F13, lk F14, lk F15, lk F16, lk F17, lk F18, lk F19, lk F20, lk F21, lk F22, lk F23, lk F24, lk F25, F26, F27, F28, F29, F30, F31, F32⟩
    · simp only [List.getElem?_toArray, List.getElem?_cons_zero, List.getElem?_cons_succ, Option.some.injEq] at ho
      subst ho
      obtain rfl := F8 (hd ⟨8, .guard⟩ (by simp) rfl)
      refine wpOp_step rfl (fun K hK => ?_)
      go_simp
      refine hK _ _ ?_
      exact ⟨_, _, _, _, _, _, _, _, _, _, _, _, _, _, _, _, _, _, _, _, _, _, _, _, _, _, rfl, lk F0, lk F1, lk F2, lk F3, lk F4, lk F5, lk F6, lk F7, lk F8, lk F9, lk F10, fun _ => rfl, lk F12, lk F13, lk F14, lk F15, lk F16, lk F17, lk F18, lk F19, lk F20, lk F21, lk F22, lk F23, lk F24, lk F25, F26, F27, F28, F29, F30, F31, F32⟩
    · simp only [List.getElem?_toArray, List.getElem?_cons_zero, List.getElem?_cons_succ, Option.some.injEq] at ho
      subst ho
      obtain rfl := F10 (hd ⟨10, .data⟩ (by simp) rfl)
      obtain rfl := F11 (hd ⟨11, .data⟩ (by simp) rfl)
      obtain rfl := F8 (hd ⟨8, .guard⟩ (by simp) rfl)
      refine wpOp_step rfl (fun K hK => ?_)
      go_simp
      refine hK _ _ ?_
      exact ⟨_, _, _, _, _, _, _, _, _, _, _, _, _, _, _, _, _, _, _, _, _, _, _, _, _, _, rfl, lk F0, lk F1, lk F2, lk F3, lk F4, lk F5, lk F6, lk F7, lk F8, lk F9, lk F10, lk F11, fun _ => rfl, lk F13, lk F14, lk F15, lk F16, lk F17, lk F18, lk F19, lk F20, lk F21, lk F22, lk F23, lk F24, lk F25, F26, F27, F28, F29, F30, F31, F32⟩
    · simp only [List.getElem?_toArray, List.getElem?_cons_zero, List.getElem?_cons_succ, Option.some.injEq] at ho
      subst ho
      obtain rfl := F12 (hd ⟨12, .data⟩ (by simp) rfl)
      obtain rfl := F8 (hd ⟨8, .guard⟩ (by simp) rfl)
      have h0 := Y0.out _ F26; have h1 := Y1.out _ F26; have h2 := Y2.out _ F26; have h3 := Y3.out _ F26; have h4 := Y4.out _ F26; have h5 := Y5.out _ F26
      refine wpOp_step rfl (fun K hK => ?_)
      go_simp
      refine hK _ _ ?_
      exact ⟨_, _, _, _, _, _, _, _, _, _, _, _, _, _, _, _, _, _, _, _, _, _, _, _, _, _, rfl, lk F0, lk F1, lk F2, lk F3, lk F4, lk F5, lk F6, lk F7, lk F8, lk F9, lk F10, lk F11, lk F12, fun _ => rfl, lk F14, lk F15, lk F16, lk F17, lk F18, lk F19, lk F20, lk F21, lk F22, lk F23, lk F24, lk F25, F26, F27, F28, F29, F30, F31, F32⟩
    · simp only [List.getElem?_toArray, List.getElem?_cons_zero, List.getElem?_cons_succ, Option.some.injEq] at ho
      subst ho
      obtain rfl := F8 (hd ⟨8, .guard⟩ (by simp) rfl)
      have h0 := F27; have h1 := F28; have h2 := F29
      refine wpOp_step rfl (fun K hK => ?_)
      go_simp
      refine hK _ _ ?_
      exact ⟨_, _, _, _, _, _, _, _, _, _, _, _, _, _, _, _, _, _, _, _, _, _, _, _, _, _, rfl, lk F0, lk F1, lk F2, lk F3, lk F4, lk F5, lk F6, lk F7, lk F8, lk F9, lk F10, lk F11, lk F12, lk F13, fun _ => rfl, lk F15, lk F16, lk F17, lk F18, lk F19, lk F20, lk F21, lk F22, lk F23, lk F24, lk F25, F26, F27, F28, F29, F30, F31, F32⟩
    · simp only [List.getElem?_toArray, List.getElem?_cons_zero, List.getElem?_cons_succ, Option.some.injEq] at ho
      subst ho
      obtain rfl := F9 (hd ⟨9, .data⟩ (by simp) rfl)
      obtain rfl := F13 (hd ⟨13, .data⟩ (by simp) rfl)
      obtain rfl := F14 (hd ⟨14, .data⟩ (by simp) rfl)
      obtain rfl := F8 (hd ⟨8, .guard⟩ (by simp) rfl)
      refine wpOp_step rfl (fun K hK => ?_)
      go_simp
      go_at_call 17
      refine (H2.out _ F26).mono ?_
      rintro e w' ⟨rfl, hb⟩
      refine hK _ _ ?_
      exact ⟨_, _, _, _, _, _, _, _, _, _, _, _, _, _, _, _, _, _, _, _, _, _, _, _, _, _, rfl, lk F0, lk F1, lk F2, lk F3, lk F4, lk F5, lk F6, lk F7, lk F8, lk F9, lk F10, lk F11, lk F12, lk F13, lk F14, fun _ => rfl, lk F16, lk F17, lk F18, lk F19, lk F20, lk F21, lk F22, lk F23, lk F24, lk F25, bt F26 hb, cell_call F27 hb, cell_call F28 hb, cell_call F29 hb, cell_call F30 hb, cell_call F31 hb, cell_call F32 hb⟩
    · simp only [List.getElem?_toArray, List.getElem?_cons_zero, List.getElem?_cons_succ, Option.some.injEq] at ho
      subst ho
      obtain rfl := F8 (hd ⟨8, .guard⟩ (by simp) rfl)
      refine wpOp_step rfl (fun K hK => ?_)
      go_simp
      refine hK _ _ ?_
      exact ⟨_, _, _, _, _, _, _, _, _, _, _, _, _, _, _, _, _, _, _, _, _, _, _, _, _, _, rfl, lk F0, lk F1, lk F2, lk F3, lk F4, lk F5, lk F6, lk F7, lk F8, lk F9, lk F10, lk F11, lk F12, lk F13, lk F14, lk F15, fun _ => rfl, lk F17, lk F18, lk F19, lk F20, lk F21, lk F22, lk F23, lk F24, lk F25, F26, F27, F28, F29, F30, F31, F32⟩
    · simp only [List.getElem?_toArray, List.getElem?_cons_zero, List.getElem?_cons_succ, Option.some.injEq] at ho
      subst ho
      obtain rfl := F16 (hd ⟨16, .data⟩ (by simp) rfl)
      obtain rfl := F8 (hd ⟨8, .guard⟩ (by simp) rfl)
      have h0 := F27; have h1 := F28; have h2 := F29
      refine wpOp_step rfl (fun K hK => ?_)
      go_simp
      refine hK _ _ ?_
      exact ⟨_, _, _, _, _, _, _, _, _, _, _, _, _, _, _, _, _, _, _, _, _, _, _, _, _, _, rfl, lk F0, lk F1, lk F2, lk F3, lk F4, lk F5, lk F6, lk F7, lk F8, lk F9, lk F10, lk F11, lk F12, lk F13, lk F14, lk F15, lk F16, fun _ => rfl, lk F18, lk F19, lk F20, lk F21, lk F22, lk F23, lk F24, lk F25, F26, F27, F28, F29, F30, F31, F32⟩
    · simp only [List.getElem?_toArray, List.getElem?_cons_zero, List.getElem?_cons_succ, Option.some.injEq] at ho
      subst ho
      obtain rfl := F17 (hd ⟨17, .data⟩ (by simp) rfl)
      obtain rfl := F8 (hd ⟨8, .guard⟩ (by simp) rfl)
      refine wpOp_step rfl (fun K hK => ?_)
      go_simp
      refine hK _ _ ?_
      exact ⟨_, _, _, _, _, _, _, _, _, _, _, _, _, _, _, _, _, _, _, _, _, _, _, _, _, _, rfl, lk F0, lk F1, lk F2, lk F3, lk F4, lk F5, lk F6, lk F7, lk F8, lk F9, lk F10, lk F11, lk F12, lk F13, lk F14, lk F15, lk F16, lk F17, fun _ => rfl, lk F19, lk F20, lk F21, lk F22, lk F23, lk F24, lk F25, F26, F27, F28, F29, F30, F31, F32⟩
    · simp only [List.getElem?_toArray, List.getElem?_cons_zero, List.getElem?_cons_succ, Option.some.injEq] at ho
      subst ho
      obtain rfl := F18 (hd ⟨18, .data⟩ (by simp) rfl)
      obtain rfl := F8 (hd ⟨8, .guard⟩ (by simp) rfl)
      refine wpOp_step rfl (fun K hK => ?_)
      go_simp
      refine hK _ _ ?_
      exact ⟨_, _, _, _, _, _, _, _, _, _, _, _, _, _, _, _, _, _, _, _, _, _, _, _, _, _, rfl, lk F0, lk F1, lk F2, lk F3, lk F4, lk F5, lk F6, lk F7, lk F8, lk F9, lk F10, lk F11, lk F12, lk F13, lk F14, lk F15, lk F16, lk F17, lk F18, fun _ => rfl, lk F20, lk F21, lk F22, lk F23, lk F24, lk F25, F26, F27, F28, F29, F30, F31, F32⟩
    · simp only [List.getElem?_toArray, List.getElem?_cons_zero, List.getElem?_cons_succ, Option.some.injEq] at ho
      subst ho
      obtain rfl := F19 (hd ⟨19, .guard⟩ (by simp) rfl)
      have h0 := F30; have h1 := F31; have h2 := F32
      refine wpOp_step rfl (fun K hK => ?_)
      go_simp
      refine hK _ _ ?_
      exact ⟨_, _, _, _, _, _, _, _, _, _, _, _, _, _, _, _, _, _, _, _, _, _, _, _, _, _, rfl, lk F0, lk F1, lk F2, lk F3, lk F4, lk F5, lk F6, lk F7, lk F8, lk F9, lk F10, lk F11, lk F12, lk F13, lk F14, lk F15, lk F16, lk F17, lk F18, lk F19, fun _ => rfl, lk F21, lk F22, lk F23, lk F24, lk F25, F26, F27, F28, F29, F30, F31, F32⟩
    · simp only [List.getElem?_toArray, List.getElem?_cons_zero, List.getElem?_cons_succ, Option.some.injEq] at ho
      subst ho
      obtain rfl := F19 (hd ⟨19, .guard⟩ (by simp) rfl)
      have h0 := F27; have h1 := F28; have h2 := F29
      refine wpOp_step rfl (fun K hK => ?_)
      go_simp
      refine hK _ _ ?_
      exact ⟨_, _, _, _, _, _, _, _, _, _, _, _, _, _, _, _, _, _, _, _, _, _, _, _, _, _, rfl, lk F0, lk F1, lk F2, lk F3, lk F4, lk F5, lk F6, lk F7, lk F8, lk F9, lk F10, lk F11, lk F12, lk F13, lk F14, lk F15, lk F16, lk F17, lk F18, lk F19, lk F20, fun _ => rfl, lk F22, lk F23, lk F24, lk F25, F26, F27, F28, F29, F30, F31, F32⟩
    · simp only [List.getElem?_toArray, List.getElem?_cons_zero, List.getElem?_cons_succ, Option.some.injEq] at ho
      subst ho
      obtain rfl := F20 (hd ⟨20, .data⟩ (by simp) rfl)
      obtain rfl := F21 (hd ⟨21, .data⟩ (by simp) rfl)
      obtain rfl := F19 (hd ⟨19, .guard⟩ (by simp) rfl)
      refine wpOp_step rfl (fun K hK => ?_)
      go_simp
      go_at_call 18
      refine (H3.out _ F26).mono ?_
      rintro e w' ⟨rfl, hb⟩
      refine hK _ _ ?_
      exact ⟨_, _, _, _, _, _, _, _, _, _, _, _, _, _, _, _, _, _, _, _, _, _, _, _, _, _, rfl, lk F0, lk F1, lk F2, lk F3, lk F4, lk F5, lk F6, lk F7, lk F8, lk F9, lk F10, lk F11, lk F12, lk F13, lk F14, lk F15, lk F16, lk F17, lk F18, lk F19, lk F20, lk F21, fun _ => rfl, lk F23, lk F24, lk F25, bt F26 hb, cell_call F27 hb, cell_call F28 hb, cell_call F29 hb, cell_call F30 hb, cell_call F31 hb, cell_call F32 hb⟩
    · simp only [List.getElem?_toArray, List.getElem?_cons_zero, List.getElem?_cons_succ, Option.some.injEq] at ho
      subst ho
      obtain rfl := F19 (hd ⟨19, .data⟩ (by simp) rfl)
      obtain rfl := F22 (hd ⟨22, .data⟩ (by simp) rfl)
      obtain rfl := F8 (hd ⟨8, .guard⟩ (by simp) rfl)
      refine wpOp_step rfl (fun K hK => ?_)
      go_simp
      refine hK _ _ ?_
      exact ⟨_, _, _, _, _, _, _, _, _, _, _, _, _, _, _, _, _, _, _, _, _, _, _, _, _, _, rfl, lk F0, lk F1, lk F2, lk F3, lk F4, lk F5, lk F6, lk F7, lk F8, lk F9, lk F10, lk F11, lk F12, lk F13, lk F14, lk F15, lk F16, lk F17, lk F18, lk F19, lk F20, lk F21, lk F22, fun _ => rfl, lk F24, lk F25, F26, F27, F28, F29, F30, F31, F32⟩
    · simp only [List.getElem?_toArray, List.getElem?_cons_zero, List.getElem?_cons_succ, Option.some.injEq] at ho
      subst ho
      obtain rfl := F15 (hd ⟨15, .data⟩ (by simp) rfl)
      obtain rfl := F23 (hd ⟨23, .data⟩ (by simp) rfl)
      obtain rfl := F8 (hd ⟨8, .guard⟩ (by simp) rfl)
      refine wpOp_step rfl (fun K hK => ?_)
      go_simp
      refine hK _ _ ?_
      exact ⟨_, _, _, _, _, _, _, _, _, _, _, _, _, _, _, _, _, _, _, _, _, _, _, _, _, _, rfl, lk F0, lk F1, lk F2, lk F3, lk F4, lk F5, lk F6, lk F7, lk F8, lk F9, lk F10, lk F11, lk F12, lk F13, lk F14, lk F15, lk F16, lk F17, lk F18, lk F19, lk F20, lk F21, lk F22, lk F23, fun _ => rfl, lk F25, F26, F27, F28, F29, F30, F31, F32⟩
    · simp only [List.getElem?_toArray, List.getElem?_cons_zero, List.getElem?_cons_succ, Option.some.injEq] at ho
      subst ho
      obtain rfl := F8 (hd ⟨8, .data⟩ (by simp) rfl)
      obtain rfl := F24 (hd ⟨24, .data⟩ (by simp) rfl)
      refine wpOp_step rfl (fun K hK => ?_)
      go_simp
      refine hK _ _ ?_
      exact ⟨_, _, _, _, _, _, _, _, _, _, _, _, _, _, _, _, _, _, _, _, _, _, _, _, _, _, rfl, lk F0, lk F1, lk F2, lk F3, lk F4, lk F5, lk F6, lk F7, lk F8, lk F9, lk F10, lk F11, lk F12, lk F13, lk F14, lk F15, lk F16, lk F17, lk F18, lk F19, lk F20, lk F21, lk F22, lk F23, lk F24, fun _ => rfl, F26, F27, F28, F29, F30, F31, F32⟩
  · intro listed A w hall hI
    unfold MrI at hI
    obtain ⟨s76, hI⟩ := hI
    obtain ⟨s77, hI⟩ := hI
    obtain ⟨s78, hI⟩ := hI
    obtain ⟨s79, hI⟩ := hI
    obtain ⟨s80, hI⟩ := hI
    obtain ⟨s81, hI⟩ := hI
    obtain ⟨s82, hI⟩ := hI
    obtain ⟨s83, hI⟩ := hI
    obtain ⟨s84, hI⟩ := hI
    obtain ⟨s85, hI⟩ := hI
    obtain ⟨s86, hI⟩ := hI
    obtain ⟨s87, hI⟩ := hI
    obtain ⟨s88, hI⟩ := hI
    obtain ⟨s89, hI⟩ := hI
    obtain ⟨s90, hI⟩ := hI
    obtain ⟨s91, hI⟩ := hI
    obtain ⟨s92, hI⟩ := hI
    obtain ⟨s93, hI⟩ := hI
    obtain ⟨s94, hI⟩ := hI
    obtain ⟨s95, hI⟩ := hI
    obtain ⟨s96, hI⟩ := hI
    obtain ⟨s97, hI⟩ := hI
    obtain ⟨s98, hI⟩ := hI
    obtain ⟨s99, hI⟩ := hI
    obtain ⟨s100, hI⟩ := hI
    obtain ⟨s101, hI⟩ := hI
    obtain ⟨rfl, hI⟩ := hI
    obtain ⟨F0, hI⟩ := hI
    obtain ⟨F1, hI⟩ := hI
    obtain ⟨F2, hI⟩ := hI
    obtain ⟨F3, hI⟩ := hI
    obtain ⟨F4, hI⟩ := hI
    obtain ⟨F5, hI⟩ := hI
    obtain ⟨F6, hI⟩ := hI
    obtain ⟨F7, hI⟩ := hI
    obtain ⟨F8, hI⟩ := hI
    obtain ⟨F9, hI⟩ := hI
    obtain ⟨F10, hI⟩ := hI
    obtain ⟨F11, hI⟩ := hI
    obtain ⟨F12, hI⟩ := hI
    obtain ⟨F13, hI⟩ := hI
    obtain ⟨F14, hI⟩ := hI
    obtain ⟨F15, hI⟩ := hI
    obtain ⟨F16, hI⟩ := hI
    obtain ⟨F17, hI⟩ := hI
    obtain ⟨F18, hI⟩ := hI
    obtain ⟨F19, hI⟩ := hI
    obtain ⟨F20, hI⟩ := hI
    obtain ⟨F21, hI⟩ := hI
    obtain ⟨F22, hI⟩ := hI
    obtain ⟨F23, hI⟩ := hI
    obtain ⟨F24, hI⟩ := hI
    obtain ⟨F25, hI⟩ := hI
    obtain ⟨F26, hI⟩ := hI
    obtain ⟨F27, hI⟩ := hI
    obtain ⟨F28, hI⟩ := hI
    obtain ⟨F29, hI⟩ := hI
    obtain ⟨F30, hI⟩ := hI
    obtain ⟨F31, hI⟩ := hI
    have F32 := hI; clear hI
    obtain rfl := F0 (hall 0 (by decide))
    obtain rfl := F1 (hall 1 (by decide))
    obtain rfl := F2 (hall 2 (by decide))
    obtain rfl := F3 (hall 3 (by decide))
    obtain rfl := F4 (hall 4 (by decide))
    obtain rfl := F5 (hall 5 (by decide))
    obtain rfl := F6 (hall 6 (by decide))
    obtain rfl := F7 (hall 7 (by decide))
    obtain rfl := F8 (hall 8 (by decide))
    obtain rfl := F9 (hall 9 (by decide))
    obtain rfl := F10 (hall 10 (by decide))
    obtain rfl := F11 (hall 11 (by decide))
    obtain rfl := F12 (hall 12 (by decide))
    obtain rfl := F13 (hall 13 (by decide))
    obtain rfl := F14 (hall 14 (by decide))
    obtain rfl := F15 (hall 15 (by decide))
    obtain rfl := F16 (hall 16 (by decide))
    obtain rfl := F17 (hall 17 (by decide))
    obtain rfl := F18 (hall 18 (by decide))
    obtain rfl := F19 (hall 19 (by decide))
    obtain rfl := F20 (hall 20 (by decide))
    obtain rfl := F21 (hall 21 (by decide))
    obtain rfl := F22 (hall 22 (by decide))
    obtain rfl := F23 (hall 23 (by decide))
    obtain rfl := F24 (hall 24 (by decide))
    obtain rfl := F25 (hall 25 (by decide))
    have HB := F26
    have Q0 := F27
    have Q1 := F28
    have Q2 := F29
    have Q3 := F30
    have Q4 := F31
    have Q5 := F32
    exact hQ _ trivial HB
def MzI (w0 : World) (ad : Addr) (gt gk sb ni ka j _zi zo ki ko : Nat) (zn kn : List UInt8) (xm xk xn xc : Int) (xs : ByteArray) (xb _r : Bool) (c0 c1 c3 c5 c6 c8 c9 c12 c13 c14 c15 c16 c17 c18 c19 c20 c21 c22 c23 c24 c25 c26 c27 c28 c29 c30 c31 c32 c33 c34 c35 c36 c37 c38 c39 c40 c41 c42 c43 c44 c45 c46 c47 c48 c49 c50 c51 c52 c53 c54 c55 c56 c57 c58 c59 c60 c61 c62 c63 c64 c65 c66 c67 c68 c69 c70 c71 c72 c73 c74 c75 : Value) (listed : Array Bool) (A : Act) (w : World) : Prop := ∃ (s76 s77 s78 s79 s80 s81 s82 s83 s84 s85 s86 s87 s88 s89 s90 s91 s92 s93 s94 s95 s96 s97 s98 s99 s100 s101 : Value), A = { tmps := #[c0, c1, .slice (some ad) ni ka, c3, .pointer (some ⟨gt, 0, none⟩), c5, c6, .pointer (some ⟨sb, 0, none⟩), c8, c9, .int .i64 (j : Nat), .pointer (some ⟨gk, 0, none⟩), c12, c13, c14, c15, c16, c17, c18, c19, c20, c21, c22, c23, c24, c25, c26, c27, c28, c29, c30, c31, c32, c33, c34, c35, c36, c37, c38, c39, c40, c41, c42, c43, c44, c45, c46, c47, c48, c49, c50, c51, c52, c53, c54, c55, c56, c57, c58, c59, c60, c61, c62, c63, c64, c65, c66, c67, c68, c69, c70, c71, c72, c73, c74, c75, s76, s77, s78, s79, s80, s81, s82, s83, s84, s85, s86, s87, s88, s89, s90, s91, s92, s93, s94, s95, s96, s97, s98, s99, s100, s101], defers := [] } ∧
  (listed.getD 0 false = true → s76 = .pointer (some ⟨sb, 0, none⟩)) ∧
  (listed.getD 1 false = true → s77 = .slice (some ad) ni ka) ∧
  (listed.getD 2 false = true → s78 = .int .i64 (j : Nat)) ∧
  (listed.getD 3 false = true → s79 = .pointer (some (ad.add (j * 6)))) ∧
  (listed.getD 4 false = true → s80 = .agg #[.int .i64 xm, .int .i64 xk, .int .i64 xn, .int .i64 xc, .string xs, .bool xb]) ∧
  (listed.getD 5 false = true → s81 = .agg #[.int .i64 (ki : Nat), .string (ba' kn), .int .i64 (ko : Nat)]) ∧
  (listed.getD 6 false = true → s82 = .agg #[.int .i64 (ki : Nat), .string (ba' kn), .int .i64 (ko : Nat)]) ∧
  (listed.getD 7 false = true → s83 = .bool false) ∧
  (listed.getD 8 false = true → s84 = .bool false) ∧
  (listed.getD 9 false = true → s85 = .pointer (some ⟨sb, 0, none⟩)) ∧
  (listed.getD 10 false = true → s86 = .slice (some ad) ni ka) ∧
  (listed.getD 11 false = true → s87 = .int .i64 (j : Nat)) ∧
  (listed.getD 12 false = true → s88 = .pointer (some (ad.add (j * 6)))) ∧
  (listed.getD 13 false = true → s89 = .agg #[.int .i64 xm, .int .i64 xk, .int .i64 xn, .int .i64 xc, .string xs, .bool xb]) ∧
  (listed.getD 14 false = true → s90 = .agg #[.int .i64 0, .string (ba' zn), .int .i64 (zo : Nat)]) ∧
  (listed.getD 15 false = true → s91 = .bool false) ∧
  (listed.getD 16 false = true → s92 = .pointer (some ⟨gt, 0, none⟩)) ∧
  (listed.getD 17 false = true → s93 = .int .i64 0) ∧
  (listed.getD 18 false = true → s94 = .bool false) ∧
  (listed.getD 19 false = true → s95 = .bool false) ∧
  (listed.getD 20 false = true → s96 = undef) ∧
  (listed.getD 21 false = true → s97 = undef) ∧
  (listed.getD 22 false = true → s98 = undef) ∧
  (listed.getD 23 false = true → s99 = .bool false) ∧
  (listed.getD 24 false = true → s100 = .bool false) ∧
  (listed.getD 25 false = true → s101 = .bool false) ∧
  Below w0.heap.size w0 w ∧
  w.cell? ⟨gt, 0, none⟩ = some (.int .i64 0) ∧
  w.cell? ⟨gt, 1, none⟩ = some (.string (ba' zn)) ∧
  w.cell? ⟨gt, 2, none⟩ = some (.int .i64 (zo : Nat)) ∧
  w.cell? ⟨gk, 0, none⟩ = some (.int .i64 (ki : Nat)) ∧
  w.cell? ⟨gk, 1, none⟩ = some (.string (ba' kn)) ∧
  w.cell? ⟨gk, 2, none⟩ = some (.int .i64 (ko : Nat))
set_option maxRecDepth 100000 in
set_option maxHeartbeats 16000000 in
theorem Mz_region (ad : Addr) (gt gk sb ni ka j zi zo ki ko : Nat) (zn kn : List UInt8) (xm xk xn xc : Int) (xs : ByteArray) (xb r : Bool) {x76 x77 x78 x79 x80 x81 x82 x83 x84 x85 x86 x87 x88 x89 x90 x91 x92 x93 x94 x95 x96 x97 x98 x99 x100 x101 : Value} {c0 c1 c3 c5 c6 c8 c9 c12 c13 c14 c15 c16 c17 c18 c19 c20 c21 c22 c23 c24 c25 c26 c27 c28 c29 c30 c31 c32 c33 c34 c35 c36 c37 c38 c39 c40 c41 c42 c43 c44 c45 c46 c47 c48 c49 c50 c51 c52 c53 c54 c55 c56 c57 c58 c59 c60 c61 c62 c63 c64 c65 c66 c67 c68 c69 c70 c71 c72 c73 c74 c75 : Value} (w0 : World) {W : World} {Q : Exit → Act → World → Prop} (hb0 : Below w0.heap.size w0 W) (C0 : W.cell? ⟨gt, 0, none⟩ = some (.int .i64 0)) (C1 : W.cell? ⟨gt, 1, none⟩ = some (.string (ba' zn))) (C2 : W.cell? ⟨gt, 2, none⟩ = some (.int .i64 (zo : Nat))) (C3 : W.cell? ⟨gk, 0, none⟩ = some (.int .i64 (ki : Nat))) (C4 : W.cell? ⟨gk, 1, none⟩ = some (.string (ba' kn))) (C5 : W.cell? ⟨gk, 2, none⟩ = some (.int .i64 (ko : Nat)))  (Y0 : Hid (∀ w1, Below w0.heap.size w0 w1 → w1.cell? (ad.add (j * 6)) = some (.int .i64 xm))) (Y1 : Hid (∀ w1, Below w0.heap.size w0 w1 → w1.cell? { block := (ad.add (j * 6)).block, off := (ad.add (j * 6)).off + 1 } = some (.int .i64 xk))) (Y2 : Hid (∀ w1, Below w0.heap.size w0 w1 → w1.cell? { block := (ad.add (j * 6)).block, off := (ad.add (j * 6)).off + 2 } = some (.int .i64 xn))) (Y3 : Hid (∀ w1, Below w0.heap.size w0 w1 → w1.cell? { block := (ad.add (j * 6)).block, off := (ad.add (j * 6)).off + 3 } = some (.int .i64 xc))) (Y4 : Hid (∀ w1, Below w0.heap.size w0 w1 → w1.cell? { block := (ad.add (j * 6)).block, off := (ad.add (j * 6)).off + 4 } = some (.string xs))) (Y5 : Hid (∀ w1, Below w0.heap.size w0 w1 → w1.cell? { block := (ad.add (j * 6)).block, off := (ad.add (j * 6)).off + 5 } = some (.bool xb))) (hj : j < ni) (_hj' : decide (j < ni) = true) (H1 : Hid (∀ w1, Below w0.heap.size w0 w1 → Calls Tryd.prog 16 #[.pointer (some ⟨sb, 0, none⟩), .agg #[.int .i64 xm, .int .i64 xk, .int .i64 xn, .int .i64 xc, .string xs, .bool xb]] w1 fun e w' => e = .returned (.agg #[.int .i64 (ki : Nat), .string (ba' kn), .int .i64 (ko : Nat)]) ∧ Below w1.heap.size w1 w')) (H2 : Hid (∀ w1, Below w0.heap.size w0 w1 → Calls Tryd.prog 17 #[.pointer (some ⟨sb, 0, none⟩), .agg #[.int .i64 xm, .int .i64 xk, .int .i64 xn, .int .i64 xc, .string xs, .bool xb], .agg #[.int .i64 0, .string (ba' zn), .int .i64 (zo : Nat)]] w1 fun e w' => e = .returned (.bool false) ∧ Below w1.heap.size w1 w'))
    (hQ : ∀ (w : World) , (True) → Below w0.heap.size w0 w → Q .normal { tmps := #[c0, c1, .slice (some ad) ni ka, c3, .pointer (some ⟨gt, 0, none⟩), c5, c6, .pointer (some ⟨sb, 0, none⟩), c8, c9, .int .i64 (j : Nat), .pointer (some ⟨gk, 0, none⟩), c12, c13, c14, c15, c16, c17, c18, c19, c20, c21, c22, c23, c24, c25, c26, c27, c28, c29, c30, c31, c32, c33, c34, c35, c36, c37, c38, c39, c40, c41, c42, c43, c44, c45, c46, c47, c48, c49, c50, c51, c52, c53, c54, c55, c56, c57, c58, c59, c60, c61, c62, c63, c64, c65, c66, c67, c68, c69, c70, c71, c72, c73, c74, c75, .pointer (some ⟨sb, 0, none⟩), .slice (some ad) ni ka, .int .i64 (j : Nat), .pointer (some (ad.add (j * 6))), .agg #[.int .i64 xm, .int .i64 xk, .int .i64 xn, .int .i64 xc, .string xs, .bool xb], .agg #[.int .i64 (ki : Nat), .string (ba' kn), .int .i64 (ko : Nat)], .agg #[.int .i64 (ki : Nat), .string (ba' kn), .int .i64 (ko : Nat)], .bool false, .bool false, .pointer (some ⟨sb, 0, none⟩), .slice (some ad) ni ka, .int .i64 (j : Nat), .pointer (some (ad.add (j * 6))), .agg #[.int .i64 xm, .int .i64 xk, .int .i64 xn, .int .i64 xc, .string xs, .bool xb], .agg #[.int .i64 0, .string (ba' zn), .int .i64 (zo : Nat)], .bool false, .pointer (some ⟨gt, 0, none⟩), .int .i64 0, .bool false, .bool false, undef, undef, undef, .bool false, .bool false, .bool false], defers := [] } w) :
    Code.wp Tryd.prog ((Tryd.f3.body.bind (regionOf 14)).getD .skip) Q { tmps := #[c0, c1, .slice (some ad) ni ka, c3, .pointer (some ⟨gt, 0, none⟩), c5, c6, .pointer (some ⟨sb, 0, none⟩), c8, c9, .int .i64 (j : Nat), .pointer (some ⟨gk, 0, none⟩), c12, c13, c14, c15, c16, c17, c18, c19, c20, c21, c22, c23, c24, c25, c26, c27, c28, c29, c30, c31, c32, c33, c34, c35, c36, c37, c38, c39, c40, c41, c42, c43, c44, c45, c46, c47, c48, c49, c50, c51, c52, c53, c54, c55, c56, c57, c58, c59, c60, c61, c62, c63, c64, c65, c66, c67, c68, c69, c70, c71, c72, c73, c74, c75, x76, x77, x78, x79, x80, x81, x82, x83, x84, x85, x86, x87, x88, x89, x90, x91, x92, x93, x94, x95, x96, x97, x98, x99, x100, x101], defers := [] } W := by
  conv => arg 2; whnf
  refine wp_region_inv (by kernel_rfl) (by kernel_rfl) (MzI w0 ad gt gk sb ni ka j zi zo ki ko zn kn xm xk xn xc xs xb r c0 c1 c3 c5 c6 c8 c9 c12 c13 c14 c15 c16 c17 c18 c19 c20 c21 c22 c23 c24 c25 c26 c27 c28 c29 c30 c31 c32 c33 c34 c35 c36 c37 c38 c39 c40 c41 c42 c43 c44 c45 c46 c47 c48 c49 c50 c51 c52 c53 c54 c55 c56 c57 c58 c59 c60 c61 c62 c63 c64 c65 c66 c67 c68 c69 c70 c71 c72 c73 c74 c75) ?_ ?_ ?_
  · exact ⟨_, _, _, _, _, _, _, _, _, _, _, _, _, _, _, _, _, _, _, _, _, _, _, _, _, _, rfl, fun h => absurd h l0, fun h => absurd h l0, fun h => absurd h l0, fun h => absurd h l0, fun h => absurd h l0, fun h => absurd h l0, fun h => absurd h l0, fun h => absurd h l0, fun h => absurd h l0, fun h => absurd h l0, fun h => absurd h l0, fun h => absurd h l0, fun h => absurd h l0, fun h => absurd h l0, fun h => absurd h l0, fun h => absurd h l0, fun h => absurd h l0, fun h => absurd h l0, fun h => absurd h l0, fun h => absurd h l0, fun h => absurd h l0, fun h => absurd h l0, fun h => absurd h l0, fun h => absurd h l0, fun h => absurd h l0, fun h => absurd h l0, bdr hb0, C0, C1, C2, C3, C4, C5⟩
  · intro i o listed A w hi ho hd hn hI
    unfold MzI at hI
    obtain ⟨s76, hI⟩ := hI
    obtain ⟨s77, hI⟩ := hI
    obtain ⟨s78, hI⟩ := hI
    obtain ⟨s79, hI⟩ := hI
    obtain ⟨s80, hI⟩ := hI
    obtain ⟨s81, hI⟩ := hI
    obtain ⟨s82, hI⟩ := hI
    obtain ⟨s83, hI⟩ := hI
    obtain ⟨s84, hI⟩ := hI
    obtain ⟨s85, hI⟩ := hI
    obtain ⟨s86, hI⟩ := hI
    obtain ⟨s87, hI⟩ := hI
    obtain ⟨s88, hI⟩ := hI
    obtain ⟨s89, hI⟩ := hI
    obtain ⟨s90, hI⟩ := hI
    obtain ⟨s91, hI⟩ := hI
    obtain ⟨s92, hI⟩ := hI
    obtain ⟨s93, hI⟩ := hI
    obtain ⟨s94, hI⟩ := hI
    obtain ⟨s95, hI⟩ := hI
    obtain ⟨s96, hI⟩ := hI
    obtain ⟨s97, hI⟩ := hI
    obtain ⟨s98, hI⟩ := hI
    obtain ⟨s99, hI⟩ := hI
    obtain ⟨s100, hI⟩ := hI
    obtain ⟨s101, hI⟩ := hI
    obtain ⟨rfl, hI⟩ := hI
    obtain ⟨F0, hI⟩ := hI
    obtain ⟨F1, hI⟩ := hI
    obtain ⟨F2, hI⟩ := hI
    obtain ⟨F3, hI⟩ := hI
    obtain ⟨F4, hI⟩ := hI
    obtain ⟨F5, hI⟩ := hI
    obtain ⟨F6, hI⟩ := hI
    obtain ⟨F7, hI⟩ := hI
    obtain ⟨F8, hI⟩ := hI
    obtain ⟨F9, hI⟩ := hI
    obtain ⟨F10, hI⟩ := hI
    obtain ⟨F11, hI⟩ := hI
    obtain ⟨F12, hI⟩ := hI
    obtain ⟨F13, hI⟩ := hI
    obtain ⟨F14, hI⟩ := hI
    obtain ⟨F15, hI⟩ := hI
    obtain ⟨F16, hI⟩ := hI
    obtain ⟨F17, hI⟩ := hI
    obtain ⟨F18, hI⟩ := hI
    obtain ⟨F19, hI⟩ := hI
    obtain ⟨F20, hI⟩ := hI
    obtain ⟨F21, hI⟩ := hI
    obtain ⟨F22, hI⟩ := hI
    obtain ⟨F23, hI⟩ := hI
    obtain ⟨F24, hI⟩ := hI
    obtain ⟨F25, hI⟩ := hI
    obtain ⟨F26, hI⟩ := hI
    obtain ⟨F27, hI⟩ := hI
    obtain ⟨F28, hI⟩ := hI
    obtain ⟨F29, hI⟩ := hI
    obtain ⟨F30, hI⟩ := hI
    obtain ⟨F31, hI⟩ := hI
    have F32 := hI; clear hI
    have hi' : i < 26 := hi
    clear hi
    rcases (by omega : i = 0 ∨ i = 1 ∨ i = 2 ∨ i = 3 ∨ i = 4 ∨ i = 5 ∨ i = 6 ∨ i = 7 ∨ i = 8 ∨ i = 9 ∨ i = 10 ∨ i = 11 ∨ i = 12 ∨ i = 13 ∨ i = 14 ∨ i = 15 ∨ i = 16 ∨ i = 17 ∨ i = 18 ∨ i = 19 ∨ i = 20 ∨ i = 21 ∨ i = 22 ∨ i = 23 ∨ i = 24 ∨ i = 25) with rfl | rfl | rfl | rfl | rfl | rfl | rfl | rfl | rfl | rfl | rfl | rfl | rfl | rfl | rfl | rfl | rfl | rfl | rfl | rfl | rfl | rfl | rfl | rfl | rfl | rfl
    · simp only [List.getElem?_toArray, List.getElem?_cons_zero, Option.some.injEq] at ho
      subst ho
      refine wpOp_step rfl (fun K hK => ?_)
      go_simp
      refine hK _ _ ?_
      exact ⟨_, _, _, _, _, _, _, _, _, _, _, _, _, _, _, _, _, _, _, _, _, _, _, _, _, _, rfl, fun _ => rfl, lk F1, lk F2, lk F3, lk F4, lk F5, lk F6, lk F7, lk F8, lk F9, lk F10, lk F11, lk F12, lk F13, lk F14, lk F15, lk F16, lk F17, lk F18, lk F19, lk F20, lk F21, lk F22, lk F23, lk F24, lk F25, F26, F27, F28, F29, F30, F31, F32⟩
    · simp only [List.getElem?_toArray, List.getElem?_cons_zero, List.getElem?_cons_succ, Option.some.injEq] at ho
      subst ho
      refine wpOp_step rfl (fun K hK => ?_)
      go_simp
      refine hK _ _ ?_
      exact ⟨_, _, _, _, _, _, _, _, _, _, _, _, _, _, _, _, _, _, _, _, _, _, _, _, _, _, rfl, lk F0, fun _ => rfl, lk F2, lk F3, lk F4, lk F5, lk F6, lk F7, lk F8, lk F9, lk F10, lk F11, lk F12, lk F13, lk F14, lk F15, lk F16, lk F17, lk F18, lk F19, lk F20, lk F21, lk F22, lk F23, lk F24, lk F25, F26, F27, F28, F29, F30, F31, F32⟩
    · simp only [List.getElem?_toArray, List.getElem?_cons_zero, List.getElem?_cons_succ, Option.some.injEq] at ho
      subst ho
      refine wpOp_step rfl (fun K hK => ?_)
      go_simp
      refine hK _ _ ?_
      exact ⟨_, _, _, _, _, _, _, _, _, _, _, _, _, _, _, _, _, _, _, _, _, _, _, _, _, _, rfl, lk F0, lk F1, fun _ => rfl, lk F3, lk F4, lk F5, lk F6, lk F7, lk F8, lk F9, lk F10, lk F11, lk F12, lk F13, lk F14, lk F15, lk F16, lk F17, lk F18, lk F19, lk F20, lk F21, lk F22, lk F23, lk F24, lk F25, F26, F27, F28, F29, F30, F31, F32⟩
    · simp only [List.getElem?_toArray, List.getElem?_cons_zero, List.getElem?_cons_succ, Option.some.injEq] at ho
      subst ho
      obtain rfl := F1 (hd ⟨1, .data⟩ (by simp) rfl)
      obtain rfl := F2 (hd ⟨2, .data⟩ (by simp) rfl)
      refine wpOp_step rfl (fun K hK => ?_)
      go_simp
      refine hK _ _ ?_
      exact ⟨_, _, _, _, _, _, _, _, _, _, _, _, _, _, _, _, _, _, _, _, _, _, _, _, _, _, rfl, lk F0, lk F1, lk F2, fun _ => rfl, lk F4, lk F5, lk F6, lk F7, lk F8, lk F9, lk F10, lk F11, lk F12, lk F13, lk F14, lk F15, lk F16, lk F17, lk F18, lk F19, lk F20, lk F21, lk F22, lk F23, lk F24, lk F25, F26, F27, F28, F29, F30, F31, F32⟩
    · simp only [List.getElem?_toArray, List.getElem?_cons_zero, List.getElem?_cons_succ, Option.some.injEq] at ho
      subst ho
      obtain rfl := F3 (hd ⟨3, .data⟩ (by simp) rfl)
      have h0 := Y0.out _ F26; have h1 := Y1.out _ F26; have h2 := Y2.out _ F26; have h3 := Y3.out _ F26; have h4 := Y4.out _ F26; have h5 := Y5.out _ F26
      refine wpOp_step rfl (fun K hK => ?_)
      go_simp
      refine hK _ _ ?_
      exact ⟨_, _, _, _, _, _, _, _, _, _, _, _, _, _, _, _, _, _, _, _, _, _, _, _, _, _, rfl, lk F0, lk F1, lk F2, lk F3, fun _ => rfl, lk F5, lk F6, lk F7, lk F8, lk F9, lk F10, lk F11, lk F12, lk F13, lk F14, lk F15, lk F16, lk F17, lk F18, lk F19, lk F20, lk F21, lk F22, lk F23, lk F24, lk F25, F26, F27, F28, F29, F30, F31, F32⟩
    · simp only [List.getElem?_toArray, List.getElem?_cons_zero, List.getElem?_cons_succ, Option.some.injEq] at ho
      subst ho
      obtain rfl := F0 (hd ⟨0, .data⟩ (by simp) rfl)
      obtain rfl := F4 (hd ⟨4, .data⟩ (by simp) rfl)
      refine wpOp_step rfl (fun K hK => ?_)
      go_simp
      go_at_call 16
      refine (H1.out _ F26).mono ?_
      rintro e w' ⟨rfl, hb⟩
      refine hK _ _ ?_
      exact ⟨_, _, _, _, _, _, _, _, _, _, _, _, _, _, _, _, _, _, _, _, _, _, _, _, _, _, rfl, lk F0, lk F1, lk F2, lk F3, lk F4, fun _ => rfl, lk F6, lk F7, lk F8, lk F9, lk F10, lk F11, lk F12, lk F13, lk F14, lk F15, lk F16, lk F17, lk F18, lk F19, lk F20, lk F21, lk F22, lk F23, lk F24, lk F25, bt F26 hb, cell_call F27 hb, cell_call F28 hb, cell_call F29 hb, cell_call F30 hb, cell_call F31 hb, cell_call F32 hb⟩
    · simp only [List.getElem?_toArray, List.getElem?_cons_zero, List.getElem?_cons_succ, Option.some.injEq] at ho
      subst ho
      have h0 := F30; have h1 := F31; have h2 := F32
      refine wpOp_step rfl (fun K hK => ?_)
      go_simp
      refine hK _ _ ?_
      exact ⟨_, _, _, _, _, _, _, _, _, _, _, _, _, _, _, _, _, _, _, _, _, _, _, _, _, _, rfl, lk F0, lk F1, lk F2, lk F3, lk F4, lk F5, fun _ => rfl, lk F7, lk F8, lk F9, lk F10, lk F11, lk F12, lk F13, lk F14, lk F15, lk F16, lk F17, lk F18, lk F19, lk F20, lk F21, lk F22, lk F23, lk F24, lk F25, F26, F27, F28, F29, F30, F31, F32⟩
    · simp only [List.getElem?_toArray, List.getElem?_cons_zero, List.getElem?_cons_succ, Option.some.injEq] at ho
      subst ho
      obtain rfl := F5 (hd ⟨5, .data⟩ (by simp) rfl)
      obtain rfl := F6 (hd ⟨6, .data⟩ (by simp) rfl)
      refine wpOp_step rfl (fun K hK => ?_)
      go_simp
      refine hK _ _ ?_
      exact ⟨_, _, _, _, _, _, _, _, _, _, _, _, _, _, _, _, _, _, _, _, _, _, _, _, _, _, rfl, lk F0, lk F1, lk F2, lk F3, lk F4, lk F5, lk F6, fun _ => rfl, lk F8, lk F9, lk F10, lk F11, lk F12, lk F13, lk F14, lk F15, lk F16, lk F17, lk F18, lk F19, lk F20, lk F21, lk F22, lk F23, lk F24, lk F25, F26, F27, F28, F29, F30, F31, F32⟩
    · simp only [List.getElem?_toArray, List.getElem?_cons_zero, List.getElem?_cons_succ, Option.some.injEq] at ho
      subst ho
      obtain rfl := F7 (hd ⟨7, .data⟩ (by simp) rfl)
      refine wpOp_step rfl (fun K hK => ?_)
      go_simp
      refine hK _ _ ?_
      exact ⟨_, _, _, _, _, _, _, _, _, _, _, _, _, _, _, _, _, _, _, _, _, _, _, _, _, _, rfl, lk F0, lk F1, lk F2, lk F3, lk F4, lk F5, lk F6, lk F7, fun _ => rfl, lk F9, lk F10, lk F11, lk F12, lk F13, lk F14, lk F15, lk F16, lk F17, lk F18, lk F19, lk F20, lk F21, lk F22, lk F23, lk F24, lk F25, F26, F27, F28, F29, F30, F31, F32⟩
    · simp only [List.getElem?_toArray, List.getElem?_cons_zero, List.getElem?_cons_succ, Option.some.injEq] at ho
      subst ho
      obtain rfl := F8 (hd ⟨8, .guard⟩ (by simp) rfl)
      refine wpOp_step rfl (fun K hK => ?_)
      go_simp
      refine hK _ _ ?_
      exact ⟨_, _, _, _, _, _, _, _, _, _, _, _, _, _, _, _, _, _, _, _, _, _, _, _, _, _, rfl, lk F0, lk F1, lk F2, lk F3, lk F4, lk F5, lk F6, lk F7, lk F8, fun _ => rfl, lk F10, lk F11, lk F12, lk F13, lk F14, lk F15, lk F16, lk F17, lk F18, lk F19, lk F20, lk F21, lk F22, lk F23, lk F24, lk F25, F26, F27, F28, F29, F30, F31, F32⟩
    · simp only [List.getElem?_toArray, List.getElem?_cons_zero, List.getElem?_cons_succ, Option.some.injEq] at ho
      subst ho
      obtain rfl := F8 (hd ⟨8, .guard⟩ (by simp) rfl)
      refine wpOp_step rfl (fun K hK => ?_)
      go_simp
      refine hK _ _ ?_
      exact ⟨_, _, _, _, _, _, _, _, _, _, _, _, _, _, _, _, _, _, _, _, _, _, _, _, _, _, rfl, lk F0, lk F1, lk F2, lk F3, lk F4, lk F5, lk F6, lk F7, lk F8, lk F9, fun _ => rfl, lk F11, lk F12, lk F13, lk F14, lk F15, lk F16, lk F17, lk F18, lk F19, lk F20, lk F21, lk F22, lk F23, lk F24, lk F25, F26, F27, F28, F29, F30, F31, F32⟩
    · simp only [List.getElem?_toArray, List.getElem?_cons_zero, List.getElem?_cons_succ, Option.some.injEq] at ho
      subst ho
      obtain rfl := F8 (hd ⟨8, .guard⟩ (by simp) rfl)
      refine wpOp_step rfl (fun K hK => ?_)
      go_simp
      refine hK _ _ ?_
      exact ⟨_, _, _, _, _, _, _, _, _, _, _, _, _, _, _, _, _, _, _, _, _, _, _, _, _, _, rfl, lk F0, lk F1, lk F2, lk F3, lk F4, lk F5, lk F6, lk F7, lk F8, lk F9, lk F10, fun _ => rfl, lk F12, lk F13, lk F14, lk F15, lk F16, lk F17, lk F18, lk F19, lk F20, lk F21, lk F22, lk F23, lk F24, lk F25, F26, F27, F28, F29, F30, F31, F32⟩
    · simp only [List.getElem?_toArray, List.getElem?_cons_zero, List.getElem?_cons_succ, Option.some.injEq] at ho
      subst ho
      obtain rfl := F10 (hd ⟨10, .data⟩ (by simp) rfl)
      obtain rfl := F11 (hd ⟨11, .data⟩ (by simp) rfl)
      obtain rfl := F8 (hd ⟨8, .guard⟩ (by simp) rfl)
      refine wpOp_step rfl (fun K hK => ?_)
      go_simp
      refine hK _ _ ?_
      exact ⟨_, _, _, _, _, _, _, _, _, _, _, _, _, _, _, _, _, _, _, _, _, _, _, _, _, _, rfl, lk F0, lk F1, lk F2, lk F3, lk F4, lk F5, lk F6, lk F7, lk F8, lk F9, lk F10, lk F11, fun _ => rfl, lk F13, lk F14, lk F15, lk F16, lk F17, lk F18, lk F19, lk F20, lk F21, lk F22, lk F23, lk F24, lk F25, F26, F27, F28, F29, F30, F31, F32⟩
    · simp only [List.getElem?_toArray, List.getElem?_cons_zero, List.getElem?_cons_succ, Option.some.injEq] at ho
      subst ho
      obtain rfl := F12 (hd ⟨12, .data⟩ (by simp) rfl)
      obtain rfl := F8 (hd ⟨8, .guard⟩ (by simp) rfl)
      have h0 := Y0.out _ F26; have h1 := Y1.out _ F26; have h2 := Y2.out _ F26; have h3 := Y3.out _ F26; have h4 := Y4.out _ F26; have h5 := Y5.out _ F26
      refine wpOp_step rfl (fun K hK => ?_)
      go_simp
      refine hK _ _ ?_
      exact ⟨_, _, _, _, _, _, _, _, _, _, _, _, _, _, _, _, _, _, _, _, _, _, _, _, _, _, rfl, lk F0, lk F1, lk F2, lk F3, lk F4, lk F5, lk F6, lk F7, lk F8, lk F9, lk F10, lk F11, lk F12, fun _ => rfl, lk F14, lk F15, lk F16, lk F17, lk F18, lk F19, lk F20, lk F21, lk F22, lk F23, lk F24, lk F25, F26, F27, F28, F29, F30, F31, F32⟩
    · simp only [List.getElem?_toArray, List.getElem?_cons_zero, List.getElem?_cons_succ, Option.some.injEq] at ho
      subst ho
      obtain rfl := F8 (hd ⟨8, .guard⟩ (by simp) rfl)
      have h0 := F27; have h1 := F28; have h2 := F29
      refine wpOp_step rfl (fun K hK => ?_)
      go_simp
      refine hK _ _ ?_
      exact ⟨_, _, _, _, _, _, _, _, _, _, _, _, _, _, _, _, _, _, _, _, _, _, _, _, _, _, rfl, lk F0, lk F1, lk F2, lk F3, lk F4, lk F5, lk F6, lk F7, lk F8, lk F9, lk F10, lk F11, lk F12, lk F13, fun _ => rfl, lk F15, lk F16, lk F17, lk F18, lk F19, lk F20, lk F21, lk F22, lk F23, lk F24, lk F25, F26, F27, F28, F29, F30, F31, F32⟩
    · simp only [List.getElem?_toArray, List.getElem?_cons_zero, List.getElem?_cons_succ, Option.some.injEq] at ho
      subst ho
      obtain rfl := F9 (hd ⟨9, .data⟩ (by simp) rfl)
      obtain rfl := F13 (hd ⟨13, .data⟩ (by simp) rfl)
      obtain rfl := F14 (hd ⟨14, .data⟩ (by simp) rfl)
      obtain rfl := F8 (hd ⟨8, .guard⟩ (by simp) rfl)
      refine wpOp_step rfl (fun K hK => ?_)
      go_simp
      go_at_call 17
      refine (H2.out _ F26).mono ?_
      rintro e w' ⟨rfl, hb⟩
      refine hK _ _ ?_
      exact ⟨_, _, _, _, _, _, _, _, _, _, _, _, _, _, _, _, _, _, _, _, _, _, _, _, _, _, rfl, lk F0, lk F1, lk F2, lk F3, lk F4, lk F5, lk F6, lk F7, lk F8, lk F9, lk F10, lk F11, lk F12, lk F13, lk F14, fun _ => rfl, lk F16, lk F17, lk F18, lk F19, lk F20, lk F21, lk F22, lk F23, lk F24, lk F25, bt F26 hb, cell_call F27 hb, cell_call F28 hb, cell_call F29 hb, cell_call F30 hb, cell_call F31 hb, cell_call F32 hb⟩
    · simp only [List.getElem?_toArray, List.getElem?_cons_zero, List.getElem?_cons_succ, Option.some.injEq] at ho
      subst ho
      obtain rfl := F8 (hd ⟨8, .guard⟩ (by simp) rfl)
      refine wpOp_step rfl (fun K hK => ?_)
      go_simp
      refine hK _ _ ?_
      exact ⟨_, _, _, _, _, _, _, _, _, _, _, _, _, _, _, _, _, _, _, _, _, _, _, _, _, _, rfl, lk F0, lk F1, lk F2, lk F3, lk F4, lk F5, lk F6, lk F7, lk F8, lk F9, lk F10, lk F11, lk F12, lk F13, lk F14, lk F15, fun _ => rfl, lk F17, lk F18, lk F19, lk F20, lk F21, lk F22, lk F23, lk F24, lk F25, F26, F27, F28, F29, F30, F31, F32⟩
    · simp only [List.getElem?_toArray, List.getElem?_cons_zero, List.getElem?_cons_succ, Option.some.injEq] at ho
      subst ho
      obtain rfl := F16 (hd ⟨16, .data⟩ (by simp) rfl)
      obtain rfl := F8 (hd ⟨8, .guard⟩ (by simp) rfl)
      have h0 := F27; have h1 := F28; have h2 := F29
      refine wpOp_step rfl (fun K hK => ?_)
      go_simp
      refine hK _ _ ?_
      exact ⟨_, _, _, _, _, _, _, _, _, _, _, _, _, _, _, _, _, _, _, _, _, _, _, _, _, _, rfl, lk F0, lk F1, lk F2, lk F3, lk F4, lk F5, lk F6, lk F7, lk F8, lk F9, lk F10, lk F11, lk F12, lk F13, lk F14, lk F15, lk F16, fun _ => rfl, lk F18, lk F19, lk F20, lk F21, lk F22, lk F23, lk F24, lk F25, F26, F27, F28, F29, F30, F31, F32⟩
    · simp only [List.getElem?_toArray, List.getElem?_cons_zero, List.getElem?_cons_succ, Option.some.injEq] at ho
      subst ho
      obtain rfl := F17 (hd ⟨17, .data⟩ (by simp) rfl)
      obtain rfl := F8 (hd ⟨8, .guard⟩ (by simp) rfl)
      refine wpOp_step rfl (fun K hK => ?_)
      go_simp
      refine hK _ _ ?_
      exact ⟨_, _, _, _, _, _, _, _, _, _, _, _, _, _, _, _, _, _, _, _, _, _, _, _, _, _, rfl, lk F0, lk F1, lk F2, lk F3, lk F4, lk F5, lk F6, lk F7, lk F8, lk F9, lk F10, lk F11, lk F12, lk F13, lk F14, lk F15, lk F16, lk F17, fun _ => rfl, lk F19, lk F20, lk F21, lk F22, lk F23, lk F24, lk F25, F26, F27, F28, F29, F30, F31, F32⟩
    · simp only [List.getElem?_toArray, List.getElem?_cons_zero, List.getElem?_cons_succ, Option.some.injEq] at ho
      subst ho
      obtain rfl := F18 (hd ⟨18, .data⟩ (by simp) rfl)
      obtain rfl := F8 (hd ⟨8, .guard⟩ (by simp) rfl)
      refine wpOp_step rfl (fun K hK => ?_)
      go_simp
      refine hK _ _ ?_
      exact ⟨_, _, _, _, _, _, _, _, _, _, _, _, _, _, _, _, _, _, _, _, _, _, _, _, _, _, rfl, lk F0, lk F1, lk F2, lk F3, lk F4, lk F5, lk F6, lk F7, lk F8, lk F9, lk F10, lk F11, lk F12, lk F13, lk F14, lk F15, lk F16, lk F17, lk F18, fun _ => rfl, lk F20, lk F21, lk F22, lk F23, lk F24, lk F25, F26, F27, F28, F29, F30, F31, F32⟩
    · simp only [List.getElem?_toArray, List.getElem?_cons_zero, List.getElem?_cons_succ, Option.some.injEq] at ho
      subst ho
      obtain rfl := F19 (hd ⟨19, .guard⟩ (by simp) rfl)
      refine wpOp_step rfl (fun K hK => ?_)
      go_simp
      refine hK _ _ ?_
      exact ⟨_, _, _, _, _, _, _, _, _, _, _, _, _, _, _, _, _, _, _, _, _, _, _, _, _, _, rfl, lk F0, lk F1, lk F2, lk F3, lk F4, lk F5, lk F6, lk F7, lk F8, lk F9, lk F10, lk F11, lk F12, lk F13, lk F14, lk F15, lk F16, lk F17, lk F18, lk F19, fun _ => rfl, lk F21, lk F22, lk F23, lk F24, lk F25, F26, F27, F28, F29, F30, F31, F32⟩
    · simp only [List.getElem?_toArray, List.getElem?_cons_zero, List.getElem?_cons_succ, Option.some.injEq] at ho
      subst ho
      obtain rfl := F19 (hd ⟨19, .guard⟩ (by simp) rfl)
      refine wpOp_step rfl (fun K hK => ?_)
      go_simp
      refine hK _ _ ?_
      exact ⟨_, _, _, _, _, _, _, _, _, _, _, _, _, _, _, _, _, _, _, _, _, _, _, _, _, _, rfl, lk F0, lk F1, lk F2, lk F3, lk F4, lk F5, lk F6, lk F7, lk F8, lk F9, lk F10, lk F11, lk F12, lk F13, lk F14, lk F15, lk F16, lk F17, lk F18, lk F19, lk F20, fun _ => rfl, lk F22, lk F23, lk F24, lk F25, F26, F27, F28, F29, F30, F31, F32⟩
    · simp only [List.getElem?_toArray, List.getElem?_cons_zero, List.getElem?_cons_succ, Option.some.injEq] at ho
      subst ho
      obtain rfl := F19 (hd ⟨19, .guard⟩ (by simp) rfl)
      refine wpOp_step rfl (fun K hK => ?_)
      go_simp
      refine hK _ _ ?_
      exact ⟨_, _, _, _, _, _, _, _, _, _, _, _, _, _, _, _, _, _, _, _, _, _, _, _, _, _, rfl, lk F0, lk F1, lk F2, lk F3, lk F4, lk F5, lk F6, lk F7, lk F8, lk F9, lk F10, lk F11, lk F12, lk F13, lk F14, lk F15, lk F16, lk F17, lk F18, lk F19, lk F20, lk F21, fun _ => rfl, lk F23, lk F24, lk F25, F26, F27, F28, F29, F30, F31, F32⟩
    · simp only [List.getElem?_toArray, List.getElem?_cons_zero, List.getElem?_cons_succ, Option.some.injEq] at ho
      subst ho
      obtain rfl := F19 (hd ⟨19, .data⟩ (by simp) rfl)
      obtain rfl := F8 (hd ⟨8, .guard⟩ (by simp) rfl)
      refine wpOp_step rfl (fun K hK => ?_)
      go_simp
      refine hK _ _ ?_
      exact ⟨_, _, _, _, _, _, _, _, _, _, _, _, _, _, _, _, _, _, _, _, _, _, _, _, _, _, rfl, lk F0, lk F1, lk F2, lk F3, lk F4, lk F5, lk F6, lk F7, lk F8, lk F9, lk F10, lk F11, lk F12, lk F13, lk F14, lk F15, lk F16, lk F17, lk F18, lk F19, lk F20, lk F21, lk F22, fun _ => rfl, lk F24, lk F25, F26, F27, F28, F29, F30, F31, F32⟩
    · simp only [List.getElem?_toArray, List.getElem?_cons_zero, List.getElem?_cons_succ, Option.some.injEq] at ho
      subst ho
      obtain rfl := F15 (hd ⟨15, .data⟩ (by simp) rfl)
      obtain rfl := F23 (hd ⟨23, .data⟩ (by simp) rfl)
      obtain rfl := F8 (hd ⟨8, .guard⟩ (by simp) rfl)
      refine wpOp_step rfl (fun K hK => ?_)
      go_simp
      refine hK _ _ ?_
      exact ⟨_, _, _, _, _, _, _, _, _, _, _, _, _, _, _, _, _, _, _, _, _, _, _, _, _, _, rfl, lk F0, lk F1, lk F2, lk F3, lk F4, lk F5, lk F6, lk F7, lk F8, lk F9, lk F10, lk F11, lk F12, lk F13, lk F14, lk F15, lk F16, lk F17, lk F18, lk F19, lk F20, lk F21, lk F22, lk F23, fun _ => rfl, lk F25, F26, F27, F28, F29, F30, F31, F32⟩
    · simp only [List.getElem?_toArray, List.getElem?_cons_zero, List.getElem?_cons_succ, Option.some.injEq] at ho
      subst ho
      obtain rfl := F8 (hd ⟨8, .data⟩ (by simp) rfl)
      obtain rfl := F24 (hd ⟨24, .data⟩ (by simp) rfl)
      refine wpOp_step rfl (fun K hK => ?_)
      go_simp
      refine hK _ _ ?_
      exact ⟨_, _, _, _, _, _, _, _, _, _, _, _, _, _, _, _, _, _, _, _, _, _, _, _, _, _, rfl, lk F0, lk F1, lk F2, lk F3, lk F4, lk F5, lk F6, lk F7, lk F8, lk F9, lk F10, lk F11, lk F12, lk F13, lk F14, lk F15, lk F16, lk F17, lk F18, lk F19, lk F20, lk F21, lk F22, lk F23, lk F24, fun _ => rfl, F26, F27, F28, F29, F30, F31, F32⟩
  · intro listed A w hall hI
    unfold MzI at hI
    obtain ⟨s76, hI⟩ := hI
    obtain ⟨s77, hI⟩ := hI
    obtain ⟨s78, hI⟩ := hI
    obtain ⟨s79, hI⟩ := hI
    obtain ⟨s80, hI⟩ := hI
    obtain ⟨s81, hI⟩ := hI
    obtain ⟨s82, hI⟩ := hI
    obtain ⟨s83, hI⟩ := hI
    obtain ⟨s84, hI⟩ := hI
    obtain ⟨s85, hI⟩ := hI
    obtain ⟨s86, hI⟩ := hI
    obtain ⟨s87, hI⟩ := hI
    obtain ⟨s88, hI⟩ := hI
    obtain ⟨s89, hI⟩ := hI
    obtain ⟨s90, hI⟩ := hI
    obtain ⟨s91, hI⟩ := hI
    obtain ⟨s92, hI⟩ := hI
    obtain ⟨s93, hI⟩ := hI
    obtain ⟨s94, hI⟩ := hI
    obtain ⟨s95, hI⟩ := hI
    obtain ⟨s96, hI⟩ := hI
    obtain ⟨s97, hI⟩ := hI
    obtain ⟨s98, hI⟩ := hI
    obtain ⟨s99, hI⟩ := hI
    obtain ⟨s100, hI⟩ := hI
    obtain ⟨s101, hI⟩ := hI
    obtain ⟨rfl, hI⟩ := hI
    obtain ⟨F0, hI⟩ := hI
    obtain ⟨F1, hI⟩ := hI
    obtain ⟨F2, hI⟩ := hI
    obtain ⟨F3, hI⟩ := hI
    obtain ⟨F4, hI⟩ := hI
    obtain ⟨F5, hI⟩ := hI
    obtain ⟨F6, hI⟩ := hI
    obtain ⟨F7, hI⟩ := hI
    obtain ⟨F8, hI⟩ := hI
    obtain ⟨F9, hI⟩ := hI
    obtain ⟨F10, hI⟩ := hI
    obtain ⟨F11, hI⟩ := hI
    obtain ⟨F12, hI⟩ := hI
    obtain ⟨F13, hI⟩ := hI
    obtain ⟨F14, hI⟩ := hI
    obtain ⟨F15, hI⟩ := hI
    obtain ⟨F16, hI⟩ := hI
    obtain ⟨F17, hI⟩ := hI
    obtain ⟨F18, hI⟩ := hI
    obtain ⟨F19, hI⟩ := hI
    obtain ⟨F20, hI⟩ := hI
    obtain ⟨F21, hI⟩ := hI
    obtain ⟨F22, hI⟩ := hI
    obtain ⟨F23, hI⟩ := hI
    obtain ⟨F24, hI⟩ := hI
    obtain ⟨F25, hI⟩ := hI
    obtain ⟨F26, hI⟩ := hI
    obtain ⟨F27, hI⟩ := hI
    obtain ⟨F28, hI⟩ := hI
    obtain ⟨F29, hI⟩ := hI
    obtain ⟨F30, hI⟩ := hI
    obtain ⟨F31, hI⟩ := hI
    have F32 := hI; clear hI
    obtain rfl := F0 (hall 0 (by decide))
    obtain rfl := F1 (hall 1 (by decide))
    obtain rfl := F2 (hall 2 (by decide))
    obtain rfl := F3 (hall 3 (by decide))
    obtain rfl := F4 (hall 4 (by decide))
    obtain rfl := F5 (hall 5 (by decide))
    obtain rfl := F6 (hall 6 (by decide))
    obtain rfl := F7 (hall 7 (by decide))
    obtain rfl := F8 (hall 8 (by decide))
    obtain rfl := F9 (hall 9 (by decide))
    obtain rfl := F10 (hall 10 (by decide))
    obtain rfl := F11 (hall 11 (by decide))
    obtain rfl := F12 (hall 12 (by decide))
    obtain rfl := F13 (hall 13 (by decide))
    obtain rfl := F14 (hall 14 (by decide))
    obtain rfl := F15 (hall 15 (by decide))
    obtain rfl := F16 (hall 16 (by decide))
    obtain rfl := F17 (hall 17 (by decide))
    obtain rfl := F18 (hall 18 (by decide))
    obtain rfl := F19 (hall 19 (by decide))
    obtain rfl := F20 (hall 20 (by decide))
    obtain rfl := F21 (hall 21 (by decide))
    obtain rfl := F22 (hall 22 (by decide))
    obtain rfl := F23 (hall 23 (by decide))
    obtain rfl := F24 (hall 24 (by decide))
    obtain rfl := F25 (hall 25 (by decide))
    have HB := F26
    have Q0 := F27
    have Q1 := F28
    have Q2 := F29
    have Q3 := F30
    have Q4 := F31
    have Q5 := F32
    exact hQ _ trivial HB
theorem matchB_fits' (f : It → TT) (t : TT) (xs : List It) : matchB f t xs = fits (xs.map f) t := by
  unfold matchB fits
  rw [List.length_map, List.all_map]
  rfl
theorem tmps_lit' (a : Array Value) (n : Nat) (h : a.size = n) : a = ((List.range n).map fun i => a.getD i undef).toArray := by
  apply Array.ext
  · simp [h]
  · intro i h1 h2
    simp [Array.getElem?_eq_getElem h1]
theorem lit102 (a : Array Value) (h : a.size = 102) : ∃ c : Nat → Value, (∀ i, a.getD i undef = c i) ∧ a = #[c 0, c 1, c 2, c 3, c 4, c 5, c 6, c 7, c 8, c 9, c 10, c 11, c 12, c 13, c 14, c 15, c 16, c 17, c 18, c 19, c 20, c 21, c 22, c 23, c 24, c 25, c 26, c 27, c 28, c 29, c 30, c 31, c 32, c 33, c 34, c 35, c 36, c 37, c 38, c 39, c 40, c 41, c 42, c 43, c 44, c 45, c 46, c 47, c 48, c 49, c 50, c 51, c 52, c 53, c 54, c 55, c 56, c 57, c 58, c 59, c 60, c 61, c 62, c 63, c 64, c 65, c 66, c 67, c 68, c 69, c 70, c 71, c 72, c 73, c 74, c 75, c 76, c 77, c 78, c 79, c 80, c 81, c 82, c 83, c 84, c 85, c 86, c 87, c 88, c 89, c 90, c 91, c 92, c 93, c 94, c 95, c 96, c 97, c 98, c 99, c 100, c 101] :=
  ⟨fun i => a.getD i undef, fun _ => rfl, (tmps_lit' a 102 h).trans rfl⟩
theorem kindI_pos {L : List En} {x : It} (_hL : ∀ e ∈ L, EnOk e) (hx : ItOk x) : (kindI L x).k.i ≠ 0 := by
  unfold kindI; split
  · rename_i h0
    have h := hx.2.resolve_left (fun e => e h0)
    show x.k.toNat ≠ 0
    omega
  · split
    · show ofNode _ ≠ 0
      unfold ofNode; split <;> decide
    · show 13 ≠ 0
      decide
theorem lie_zero {k o : TK} (h : LieK k o) (h0 : o.i = 0) : k.i = 0 := by
  rcases h with h | h
  · exact h
  · exact abv_zero h h0
theorem match_law (A0 : Option Addr) (cap0 nt : Nat) (ts : List Tr) (ti tq : Int) (tn : List UInt8) (Ai : Option Addr) (ni ka : Nat) (xs : List It) (w : World) (hT : tabs w) (hE : TE w) (hK : TK2 w) (hR : RdP (fun b => b < w.heap.size) w 5 A0 nt (rowT ts)) (hlen : ts.length = nt) (hin : ∀ t ∈ ts, t.In (fun b => b < w.heap.size) w) (hbk : ∀ t ∈ ts, t.pl.bulk ≤ 1048576)
    (hxs : xs.length = ni) (hni : ni ≤ 1048576) (hI : IRow6 w Ai xs) (hsz : ∀ x ∈ xs, x.s.size ≤ 1099511627776 ∧ -9223372036854775808 ≤ x.n ∧ x.n ≤ 9223372036854775807) (htn : tn.length ≤ 1099511627776) :
    Calls Tryd.prog 3 #[.slice A0 nt cap0, .agg #[.int .i64 ti, .string (ba' tn), .int .i64 tq], .slice Ai ni ka] w fun e w' => e = .returned (.bool true) ∧ Below w.heap.size w w' := by
  have HA : Hid (∀ w1, Below w.heap.size w w1 → Calls Tryd.prog 8 #[] w1 fun e w' => e = .returned (.bool true) ∧ Below w1.heap.size w1 w') := Lib.hid fun w1 h1 => awake_any w1 (hE.below h1)
  have HRT : Hid (∀ w1 : World, Calls Tryd.prog 10 #[.agg #[.int .i64 ti, .string (ba' tn), .int .i64 tq]] w1 fun e w' => e = .returned (.bool (rightB ti tn tq)) ∧ Below w1.heap.size w1 w') := Lib.hid fun w1 => right_ref ti tq tn htn w1
  have HR1 : Hid (∀ w1 g, Below w.heap.size w w1 → g < w1.heap.size → RRow w1 g [⟨ti, tn, tq⟩] → Calls Tryd.prog 9 #[.slice (some ⟨g, 0, none⟩) 1 1] w1 fun e w' => e = .returned (.bool (rightB ti tn tq)) ∧ Below w1.heap.size w1 w') := Lib.hid fun w1 g h1 _ hr => by
    have h := rights_any [⟨ti, tn, tq⟩] (fun t ht => by rw [List.mem_singleton.1 ht]; exact htn) 1 g rfl (by decide) w1 (Utf8Tabs_below hT h1) hr
    simp only [List.all_cons, List.all_nil, Bool.and_true] at h
    exact h
  have HR2 : Hid (∀ w1 g, Below w.heap.size w w1 → g < w1.heap.size → RRow w1 g [⟨1, [], 0⟩, ⟨ti, tn, tq⟩] → Calls Tryd.prog 9 #[.slice (some ⟨g, 0, none⟩) 2 2] w1 fun e w' => e = .returned (.bool (rightB ti tn tq)) ∧ Below w1.heap.size w1 w') := Lib.hid fun w1 g h1 _ hr => by
    have h := rights_any [⟨1, [], 0⟩, ⟨ti, tn, tq⟩] (fun t ht => by
      rcases List.mem_cons.1 ht with rfl | ht
      · show 0 ≤ _
        omega
      · rw [List.mem_singleton.1 ht]; exact htn) 2 g rfl (by decide) w1 (Utf8Tabs_below hT h1) hr
    simp only [List.all_cons, List.all_nil, Bool.and_true, show rightB 1 [] 0 = true by decide, Bool.true_and] at h
    exact h
  have HLD : Hid (∀ w1, Below w.heap.size w w1 → Calls Tryd.prog 12 #[.slice A0 nt cap0, .slice Ai ni ka] w1 fun e w' => (if xs.all okI then (∃ sb A c Al cl us, e = .returned (.tuple #[.pointer (some ⟨sb, 0, none⟩), .slice Al (sizeL (plL us)) cl, .bool true]) ∧ LaidS w1 w' sb A c Al cl us ∧ plL us = laidT (plL ts) 6) else e = .returned (.tuple #[.pointer none, .slice none 0 0, .bool false])) ∧ Below w1.heap.size w1 w') := Lib.hid fun w1 h1 =>
    laid14_any (fun x => atomR x.k x.n x.c x.s.data.toList x.b) A0 cap0 nt ts Ai ka ni xs w1 (Utf8Tabs_below hT h1) ⟨hR.1, fun h0 => by
      obtain ⟨a, e, hb, hc⟩ := hR.2 h0
      exact ⟨a, e, Nat.lt_of_lt_of_le hb h1.size, fun j u hu => (h1.cell (by rw [block_of_add]; exact hb)).trans (hc j u hu)⟩⟩ hlen (fun t ht => (hin t ht).keep (fun _ h => Nat.lt_of_lt_of_le h h1.size) (fun _ hp => h1.cell hp)) hbk hxs hni (hI.below h1) (Lib.hid fun x hx _ w2 _ => atom_ref x.k x.n x.c x.s.data.toList x.b (hsz x hx).2.1 (hsz x hx).2.2 (by have := (hsz x hx).1; simpa using this) w2)
  have HE := Lib.hid hE; have HK2 := Lib.hid hK; have HII := Lib.hid hI; have HXS := Lib.hid hxs; have HNI := Lib.hid hni
  clear hT hE hK hR hlen hin hbk hI hsz htn hxs
  by_cases hgr : 50 < ni
  · have q1 : decide ((ni : Int) > 50) = true := by simp; omega
    have q2 : decide ((50 : Int) < (ni : Int)) = true := by simp; omega
    go_enter Tryd.func3, Tryd.ntmps3
    go_wp2_with fail
    refine (HA.out _ (by repeat (with_reducible (first | exact Below.refl _ _ | assumption | apply ba | apply bd | apply bdr | (refine bs ?_ (by first | assumption | (simp; done) | (simp; omega))) | (refine bt ?_ (by assumption)))))).mono ?_
    rintro e w1 ⟨rfl, hb1⟩
    have B1 : Below w.heap.size w w1 := (by repeat (with_reducible (first | exact Below.refl _ _ | assumption | apply ba | apply bd | apply bdr | (refine bs ?_ (by first | assumption | (simp; done) | (simp; omega))) | (refine bt ?_ (by assumption)))))
    go_wp2_with fail
    refine (HA.out _ (by repeat (with_reducible (first | exact Below.refl _ _ | assumption | apply ba | apply bd | apply bdr | (refine bs ?_ (by first | assumption | (simp; done) | (simp; omega))) | (refine bt ?_ (by assumption)))))).mono ?_
    rintro e w2 ⟨rfl, hb2⟩
    have B2 : Below w.heap.size w w2 := (by repeat (with_reducible (first | exact Below.refl _ _ | assumption | apply ba | apply bd | apply bdr | (refine bs ?_ (by first | assumption | (simp; done) | (simp; omega))) | (refine bt ?_ (by assumption)))))
    go_wp2
    go_ret
    exact ⟨rfl, B2⟩
  have q1 : decide ((ni : Int) > 50) = false := by simp; omega
  have q2 : decide ((50 : Int) < (ni : Int)) = false := by simp; omega
  clear hni
  obtain ⟨r0, hr0⟩ : ∃ r, rightB ti tn tq = r := ⟨_, rfl⟩
  rw [hr0] at HRT HR1 HR2
  have HR0 := Lib.hid hr0
  clear hr0
  go_enter Tryd.func3, Tryd.ntmps3
  go_wp2_with fail
  refine (HA.out _ (by repeat (with_reducible (first | exact Below.refl _ _ | assumption | apply ba | apply bd | apply bdr | (refine bs ?_ (by first | assumption | (simp; done) | (simp; omega))) | (refine bt ?_ (by assumption)))))).mono ?_
  rintro e w1 ⟨rfl, hb1⟩
  have B1 : Below w.heap.size w w1 := (by repeat (with_reducible (first | exact Below.refl _ _ | assumption | apply ba | apply bd | apply bdr | (refine bs ?_ (by first | assumption | (simp; done) | (simp; omega))) | (refine bt ?_ (by assumption)))))
  have hc1 := fun o => (bcell hb1).1 (w.heap.size) o (by first | (simp; done) | (simp; omega))
  have e0 : w1.cell? ⟨w.heap.size, 0, none⟩ = some (.int .i64 ti) := (by first | assumption | (go_simp; done) | (go_simp; rfl) | (go_keep; done))
  have e1 : w1.cell? ⟨w.heap.size, 1, none⟩ = some (.string (ba' tn)) := (by first | assumption | (go_simp; done) | (go_simp; rfl) | (go_keep; done))
  have e2 : w1.cell? ⟨w.heap.size, 2, none⟩ = some (.int .i64 tq) := (by first | assumption | (go_simp; done) | (go_simp; rfl) | (go_keep; done))
  have HB1 := Lib.hid B1
  clear hc1 hb1 B1
  go_wp2
  refine Mt3_region w.heap.size ti tq tn r0 (.slice A0 nt cap0) (.slice Ai ni ka) w1 rfl rfl rfl rfl (Below.refl _ _) e0 e1 e2 (Lib.hid fun w2 g h1 hg hr => HR1.out w2 g (bt HB1.out h1) hg hr) (Lib.hid fun w2 g h1 hg hr => HR2.out w2 g (bt HB1.out h1) hg hr) (Lib.hid fun w2 _ => HRT.out w2) (Lib.hid fun w2 _ => integer_any w2) ?_
  intro X2 w2 k1 k2 k34 k_0 k_2 k_4 hb2
  have f0 := cell_call e0 hb2
  have f1 := cell_call e1 hb2
  have f2 := cell_call e2 hb2
  have HB2 := Lib.hid (bt HB1.out hb2)
  clear e0 e1 e2 hb2 HR1 HR2 HA
  go_wp2
  refine wp_cond_false k34 ?_
  obtain ⟨tm, df⟩ := X2
  simp only at k1 k2 k34 k_0 k_2 k_4
  subst k1
  obtain ⟨u, hu, rfl⟩ := lit102 tm k2
  rw [hu] at k_0 k_2 k_4
  rw [k_0, k_2, k_4]
  clear k_0 k_2 k_4 k34 k2 hu
  go_wp2_with fail
  refine (HLD.out _ HB2.out).mono ?_
  rintro e w3 ⟨he, hb3⟩
  have e0 := cell_call f0 hb3
  have e1 := cell_call f1 hb3
  have e2 := cell_call f2 hb3
  have HB3 := Lib.hid (bt HB2.out hb3)
  clear f0 f1 f2 hb3 HLD
  cases hok : xs.all okI with
  | false =>
    rw [hok] at he
    obtain rfl : e = _ := he
    go_wp2
    go_ret
    exact ⟨rfl, HB3.out⟩
  | true =>
    rw [hok] at he
    obtain ⟨sb, A, c, Al, cl, us, rfl, hS, hpl⟩ := he
    have HPL := Lib.hid hpl
    have HS := Lib.hid hS
    have hIO : ∀ x ∈ xs, ItOk x := fun x hx => okI_ok (List.all_eq_true.1 hok x hx)
    have HIO := Lib.hid hIO
    clear hS hIO hpl hok
    cases r0 with
    | false =>
      go_wp2_with fail
      refine (HRT.out _).mono ?_
      rintro e w4 ⟨rfl, hb4⟩
      have HB4 := Lib.hid (bt HB3.out hb4)
      clear hb4
      go_wp2
      go_ret
      exact ⟨rfl, HB4.out⟩
    | true =>
      obtain ⟨⟨⟨zi, zn⟩, zo⟩, gt, rfl, ezn, rfl⟩ := right_gt HR0.out
      obtain rfl : zn = tn := ezn.symm
      have HGT := Lib.hid gt
      clear gt
      simp only at HRT e0 e1 e2
      go_wp2_with fail
      refine (HRT.out _).mono ?_
      rintro e w4 ⟨rfl, hb4⟩
      have f0 := cell_call e0 hb4
      have f1 := cell_call e1 hb4
      have f2 := cell_call e2 hb4
      have HB4 := Lib.hid (bt HB3.out hb4)
      have HS4 := Lib.hid (HS.out.later hb4)
      clear e0 e1 e2 hb4 HRT HS
      obtain ⟨L, hLd⟩ : ∃ L, layL (plL us) 0 0 = L := ⟨_, rfl⟩
      have hrr : ∀ t ∈ plL us, t.right 0 = true := by
        intro t ht
        rw [plL_map] at ht
        obtain ⟨u, hu, rfl⟩ := List.mem_map.1 ht
        exact (HS4.out.fine u hu).1
      have hen := layL_ok (plL us) hrr 0 0
      rw [hLd] at hen
      have HEN := Lib.hid hen
      have HST : Hid (∀ w1, Below w4.heap.size w4 w1 → StoreAt w1 sb 1000 A c L) := Lib.hid fun w1 h1 => by rw [← hLd]; exact (HS4.out.later h1).store
      have hln : L.length ≤ 1048576 := by
        rw [← hLd, layL_len]
        have h1 := HS4.out.size
        have h2 : us.length ≤ 6 := by
          have h3 : (plL us).length = us.length := by rw [plL_map, List.length_map]
          rw [← h3, HPL.out]
          unfold laidT
          exact Nat.le_trans (List.length_filter_le _ _) (by rw [List.length_take]; exact Nat.min_le_left _ _)
        omega
      have HLN := Lib.hid hln
      obtain ⟨nl, hnl⟩ : ∃ nl, sizeL (plL us) = nl := ⟨_, rfl⟩
      have hnl1 : nl ≤ 1048576 := by rw [← hnl, ← layL_len (plL us) 0 0, hLd]; exact hln
      have HNK : Hid ((nodesL us 0 0).map trK = L.map enK) := Lib.hid (by rw [← hLd]; exact nodesL_kinds us 0 0 0 0)
      have HNL : Hid (nl = (nodesL us 0 0).length) := Lib.hid (by rw [nodesL_len, hnl])
      have HKD : Hid (∀ x ∈ xs, ∀ w1, Below w4.heap.size w4 w1 → Calls Tryd.prog 16 #[.pointer (some ⟨sb, 0, none⟩), .agg #[.int .i64 x.m, .int .i64 x.k, .int .i64 x.n, .int .i64 x.c, .string x.s, .bool x.b]] w1 fun e w' => e = .returned (.agg #[.int .i64 ((kindI L x).k.i : Nat), .string (ba' (kindI L x).k.n), .int .i64 ((kindI L x).o : Nat)]) ∧ Below w1.heap.size w1 w') := Lib.hid fun x hx w1 h1 => kindI_any sb A c L x (HIO.out x hx) HEN.out HLN.out w1 (HST.out w1 h1) (HK2.out.below (bt HB4.out h1))
      have HKR : Hid (∀ x ∈ xs, ∀ w1, Below w4.heap.size w4 w1 → Calls Tryd.prog 15 #[.slice Al nl cl, .agg #[.int .i64 x.m, .int .i64 x.k, .int .i64 x.n, .int .i64 x.c, .string x.s, .bool x.b]] w1 fun e w' => e = .returned (.agg #[.int .i64 ((kindI L x).k.i : Nat), .string (ba' (kindI L x).k.n), .int .i64 ((kindI L x).o : Nat)]) ∧ Below w1.heap.size w1 w') := Lib.hid fun x hx w1 h1 => by
        have ho := (HS4.out.later h1).own
        rw [hnl] at ho
        obtain ⟨A', c', he, _, hr⟩ := own_rd ho
        cases he
        exact kindR_any Al nl cl (nodesL us 0 0) L _ x (HIO.out x hx) HEN.out HNK.out HNL.out hnl1 w1 hr (fun b hb => (own_lt ho hb).2)
      have HGK : Hid (∀ x ∈ xs, GT (kindI L x)) := Lib.hid fun x hx => gt_kindI HEN.out (HIO.out x hx)
      obtain ⟨m, hm⟩ : ∃ m, fits (xs.map (kindI L)) ⟨⟨zi, zn⟩, zo⟩ = m := ⟨_, rfl⟩
      have HM := Lib.hid hm
      have M1 : Hid (∀ w1 A1 c1, Below w4.heap.size w4 w1 → IRow6 w1 A1 xs → Calls Tryd.prog 13 #[.pointer (some ⟨sb, 0, none⟩), .agg #[.int .i64 (zi : Nat), .string (ba' zn), .int .i64 (zo : Nat)], .slice A1 ni c1] w1 fun e w' => e = .returned (.bool m) ∧ Below w1.heap.size w1 w') := Lib.hid fun w1 A1 c1 h1 hI => by
        have h := match_any (kindI L) sb ⟨⟨zi, zn⟩, zo⟩ HGT.out A1 c1 ni xs HXS.out HNI.out w1 (HE.out.below (bt HB4.out h1)) hI HGK.out (Lib.hid fun x hx w2 h2 => HKD.out x hx w2 (bt h1 h2))
        rw [matchB_fits', HM.out] at h
        exact h
      have M2 : Hid (∀ w1, Below w4.heap.size w4 w1 → Calls Tryd.prog 14 #[.slice Al nl cl, .agg #[.int .i64 (zi : Nat), .string (ba' zn), .int .i64 (zo : Nat)], .slice Ai ni ka] w1 fun e w' => e = .returned (.bool m) ∧ Below w1.heap.size w1 w') := Lib.hid fun w1 h1 => by
        have h := matchR_any (kindI L) ⟨⟨zi, zn⟩, zo⟩ HGT.out Al nl cl Ai ni ka xs HXS.out HNI.out w1 (HII.out.below (bt HB4.out h1)) HGK.out (Lib.hid fun x hx w2 h2 => HKR.out x hx w2 (bt h1 h2))
        rw [HM.out] at h
        exact h
      rw [hnl]
      clear hLd hrr hen hln hnl hnl1 hm HPL HS4 HNK HNL HM HR0
      go_wp2
      refine Mt8_region w.heap.size sb zi zo zn m Ai Al ni ka nl cl xs w4 rfl rfl rfl rfl rfl (Below.refl _ _) f0 f1 f2 (Lib.hid (HII.out.below HB4.out)) HXS.out HNI.out M1 M2 ?_
      intro X5 w5 k1 k2 k63 k_2 k_4 k_7 k_8 hb5
      have e0 := cell_call f0 hb5
      have e1 := cell_call f1 hb5
      have e2 := cell_call f2 hb5
      have ez : w.heap.size < w5.heap.size := Nat.lt_of_lt_of_le (World.block_lt_of_cell? w4 _ f0) hb5.size
      have H45 := Lib.hid hb5
      have HB5 := Lib.hid (bt HB4.out hb5)
      clear f0 f1 f2 hb5 M1 M2
      go_wp2
      refine wp_cond_false k63 ?_
      obtain ⟨tm, df⟩ := X5
      simp only at k1 k2 k63 k_2 k_4 k_7 k_8
      subst k1
      obtain ⟨v, hv, rfl⟩ := lit102 tm k2
      rw [hv] at k_2 k_4 k_7 k_8
      rw [k_2, k_4, k_7, k_8]
      clear k_2 k_4 k_7 k_8 k63 k2 hv
      go_wp2
      go_loopw [10] (fun s10 wx => ∃ j : Nat, s10 = .int .i64 (j : Nat) ∧ j ≤ ni ∧ wx.cell? ⟨w.heap.size, 0, none⟩ = some (.int .i64 (zi : Nat)) ∧ wx.cell? ⟨w.heap.size, 1, none⟩ = some (.string (ba' zn)) ∧ wx.cell? ⟨w.heap.size, 2, none⟩ = some (.int .i64 (zo : Nat)) ∧ w.heap.size < wx.heap.size ∧ Below w5.heap.size w5 wx) (fun s10 _ => ni - (intOf s10).toNat)
      case atStart => exact ⟨0, rfl, Nat.zero_le _, e0, e1, e2, ez, Below.refl _ _⟩
      case round =>
        obtain ⟨j, rfl, hj, p0, p1, p2, pz, hB⟩ := hrel
        have HB := Lib.hid hB
        have HBJ := Lib.hid (bt HB5.out hB)
        have H4J := Lib.hid (bt H45.out hB)
        clear e0 e1 e2 ez
        by_cases hlt : j < ni
        · have q3 : decide ((j : Int) < (ni : Int)) = true := decide_eq_true (by omega)
          have q3' : decide (j < ni) = true := decide_eq_true hlt
          obtain ⟨x, hx⟩ : ∃ x, xs[j]? = some x := ⟨_, List.getElem?_eq_getElem (by rw [HXS.out]; exact hlt)⟩
          have hxm := List.mem_of_getElem? hx
          obtain ⟨ad, rfl, hb0, d0, d1, d2, d3, d4, d5⟩ := HII.out j x hx
          have d0 := (HBJ.out.cell hb0).trans d0
          have d1 := (HBJ.out.cell (show ({ block := (ad.add (j * 6)).block, off := (ad.add (j * 6)).off + 1 } : Addr).block < w.heap.size from hb0)).trans d1
          have d2 := (HBJ.out.cell (show ({ block := (ad.add (j * 6)).block, off := (ad.add (j * 6)).off + 2 } : Addr).block < w.heap.size from hb0)).trans d2
          have d3 := (HBJ.out.cell (show ({ block := (ad.add (j * 6)).block, off := (ad.add (j * 6)).off + 3 } : Addr).block < w.heap.size from hb0)).trans d3
          have d4 := (HBJ.out.cell (show ({ block := (ad.add (j * 6)).block, off := (ad.add (j * 6)).off + 4 } : Addr).block < w.heap.size from hb0)).trans d4
          have d5 := (HBJ.out.cell (show ({ block := (ad.add (j * 6)).block, off := (ad.add (j * 6)).off + 5 } : Addr).block < w.heap.size from hb0)).trans d5
          have hw : wrap64 ((j : Int) + 1) = (j : Int) + 1 := by unfold wrap64; omega
          have HK1 := Lib.hid (fun w1 h1 => HKD.out x hxm w1 (bt H4J.out h1))
          have HK3 := Lib.hid (fun w1 h1 => HKR.out x hxm w1 (bt H4J.out h1))
          have hgx := HGK.out x hxm
          have HIS : Hid (∀ w1, Below wr.heap.size wr w1 → Calls Tryd.prog 17 #[.pointer (some ⟨sb, 0, none⟩), .agg #[.int .i64 x.m, .int .i64 x.k, .int .i64 x.n, .int .i64 x.c, .string x.s, .bool x.b], .agg #[.int .i64 (zi : Nat), .string (ba' zn), .int .i64 (zo : Nat)]] w1 fun e w' => e = .returned (.bool (lieB (kindI L x).k ⟨zi, zn⟩)) ∧ Below w1.heap.size w1 w') := Lib.hid fun w1 h1 => is_any sb x.m x.k x.n x.c x.s x.b (kindI L x) ⟨⟨zi, zn⟩, zo⟩ hgx w1 (HE.out.below (bt HBJ.out h1)) (Lib.hid fun w2 h2 => HK1.out w2 (bt h1 h2))
          have HLI : Hid (∀ w1 : World, Calls Tryd.prog 18 #[.agg #[.int .i64 ((kindI L x).k.i : Nat), .string (ba' (kindI L x).k.n), .int .i64 ((kindI L x).o : Nat)], .agg #[.int .i64 (zi : Nat), .string (ba' zn), .int .i64 (zo : Nat)]] w1 fun e w' => e = .returned (.bool (lieB (kindI L x).k ⟨zi, zn⟩)) ∧ Below w1.heap.size w1 w') := Lib.hid fun w1 => lies_ref (kindI L x) ⟨⟨zi, zn⟩, zo⟩ hgx HGT.out w1
          have hne : zi = 0 → lieB (kindI L x).k ⟨zi, zn⟩ = false := fun h0 => by
            have h1 : (kindI L x).k.i ≠ 0 := kindI_pos HEN.out (HIO.out x hxm)
            cases hl : lieB (kindI L x).k ⟨zi, zn⟩ with
            | false => rfl
            | true => exact absurd (lie_zero ((lieB_is hgx.1).1 hl) h0) h1
          obtain ⟨r, hr⟩ : ∃ r, lieB (kindI L x).k ⟨zi, zn⟩ = r := ⟨_, rfl⟩
          rw [hr] at HIS HLI hne
          have HNE := Lib.hid hne
          obtain ⟨⟨⟨ki, kn⟩, ko⟩, hke⟩ : ∃ k, kindI L x = k := ⟨_, rfl⟩
          rw [hke] at HK1 HK3 HLI
          obtain ⟨xm, xk, xn, xc, xs', xb⟩ := x
          simp only at d0 d1 d2 d3 d4 d5 HK1 HK3 HIS HLI
          have HD0 := Lib.hid (⟨d0, d1, d2, d3, d4, d5⟩ : _ ∧ _ ∧ _ ∧ _ ∧ _ ∧ _)
          have hbr : (ad.add (j * 6)).block < wr.heap.size := Nat.lt_of_lt_of_le hb0 HBJ.out.size
          clear hr hxm hx hke hB hgx hne hb0
          go_wp2_with fail
          refine (HK3.out _ (Below.refl _ _)).mono ?_
          rintro e w6 ⟨rfl, hb6⟩
          have r0 := cell_call p0 hb6
          have r1 := cell_call p1 hb6
          have r2 := cell_call p2 hb6
          have HB6 := Lib.hid hb6
          clear hb6 p0 p1 p2 d0 d1 d2 d3 d4 d5
          go_wp2
          have o0 : (w6.alloc (.cells #[.int .i64 (ki : Nat), .string (ba' kn), .int .i64 (ko : Nat)] 26)).cell? ⟨w6.heap.size, 0, none⟩ = some (.int .i64 (ki : Nat)) := (by first | assumption | (go_simp; done) | (go_simp; rfl) | (go_keep; done))
          have o1 : (w6.alloc (.cells #[.int .i64 (ki : Nat), .string (ba' kn), .int .i64 (ko : Nat)] 26)).cell? ⟨w6.heap.size, 1, none⟩ = some (.string (ba' kn)) := (by first | assumption | (go_simp; done) | (go_simp; rfl) | (go_keep; done))
          have o2 : (w6.alloc (.cells #[.int .i64 (ki : Nat), .string (ba' kn), .int .i64 (ko : Nat)] 26)).cell? ⟨w6.heap.size, 2, none⟩ = some (.int .i64 (ko : Nat)) := (by first | assumption | (go_simp; done) | (go_simp; rfl) | (go_keep; done))
          have t0 := cell_new (o := .cells #[.int .i64 (ki : Nat), .string (ba' kn), .int .i64 (ko : Nat)] 26) r0
          have t1 := cell_new (o := .cells #[.int .i64 (ki : Nat), .string (ba' kn), .int .i64 (ko : Nat)] 26) r1
          have t2 := cell_new (o := .cells #[.int .i64 (ki : Nat), .string (ba' kn), .int .i64 (ko : Nat)] 26) r2
          have HBW : Hid (Below wr.heap.size wr (w6.alloc (.cells #[.int .i64 (ki : Nat), .string (ba' kn), .int .i64 (ko : Nat)] 26))) := Lib.hid (ba HB6.out)
          clear r0 r1 r2
          generalize (w6.alloc (.cells #[.int .i64 (ki : Nat), .string (ba' kn), .int .i64 (ko : Nat)] 26)) = W at *
          have hbw : (ad.add (j * 6)).block < W.heap.size := Nat.lt_of_lt_of_le hbr HBW.out.size
          have HD := Lib.hid (⟨(HBW.out.cell hbr).trans HD0.out.1, (HBW.out.cell (show ({ block := (ad.add (j * 6)).block, off := (ad.add (j * 6)).off + 1 } : Addr).block < wr.heap.size from hbr)).trans HD0.out.2.1, (HBW.out.cell (show ({ block := (ad.add (j * 6)).block, off := (ad.add (j * 6)).off + 2 } : Addr).block < wr.heap.size from hbr)).trans HD0.out.2.2.1, (HBW.out.cell (show ({ block := (ad.add (j * 6)).block, off := (ad.add (j * 6)).off + 3 } : Addr).block < wr.heap.size from hbr)).trans HD0.out.2.2.2.1, (HBW.out.cell (show ({ block := (ad.add (j * 6)).block, off := (ad.add (j * 6)).off + 4 } : Addr).block < wr.heap.size from hbr)).trans HD0.out.2.2.2.2.1, (HBW.out.cell (show ({ block := (ad.add (j * 6)).block, off := (ad.add (j * 6)).off + 5 } : Addr).block < wr.heap.size from hbr)).trans HD0.out.2.2.2.2.2⟩ : _ ∧ _ ∧ _ ∧ _ ∧ _ ∧ _)
          have hzW : w.heap.size < W.heap.size := Nat.lt_of_lt_of_le pz HBW.out.size
          clear HD0
          by_cases hz0 : zi = 0
          · have hrf := HNE.out hz0
            subst hrf
            have t0z : W.cell? ⟨w.heap.size, 0, none⟩ = some (.int .i64 0) := by rw [t0, hz0]; rfl
            rw [hz0] at HIS
            clear hz0
            refine Mz_region ad w.heap.size w6.heap.size sb ni ka j 0 zo ki ko zn kn xm xk xn xc xs' xb false W (Below.refl _ _) t0z t1 t2 o0 o1 o2 (Lib.hid fun w1 h1 => (h1.cell hbw).trans HD.out.1) (Lib.hid fun w1 h1 => (h1.cell (show ({ block := (ad.add (j * 6)).block, off := (ad.add (j * 6)).off + 1 } : Addr).block < W.heap.size from hbw)).trans HD.out.2.1) (Lib.hid fun w1 h1 => (h1.cell (show ({ block := (ad.add (j * 6)).block, off := (ad.add (j * 6)).off + 2 } : Addr).block < W.heap.size from hbw)).trans HD.out.2.2.1) (Lib.hid fun w1 h1 => (h1.cell (show ({ block := (ad.add (j * 6)).block, off := (ad.add (j * 6)).off + 3 } : Addr).block < W.heap.size from hbw)).trans HD.out.2.2.2.1) (Lib.hid fun w1 h1 => (h1.cell (show ({ block := (ad.add (j * 6)).block, off := (ad.add (j * 6)).off + 4 } : Addr).block < W.heap.size from hbw)).trans HD.out.2.2.2.2.1) (Lib.hid fun w1 h1 => (h1.cell (show ({ block := (ad.add (j * 6)).block, off := (ad.add (j * 6)).off + 5 } : Addr).block < W.heap.size from hbw)).trans HD.out.2.2.2.2.2) hlt q3' (Lib.hid fun w1 h1 => HK1.out w1 (bt HBW.out h1)) (Lib.hid fun w1 h1 => HIS.out w1 (bt HBW.out h1)) ?_
            intro w7 _ hb7
            have u0 := cell_call t0 hb7
            have u1 := cell_call t1 hb7
            have u2 := cell_call t2 hb7
            have uz := zz hb7 hzW
            have HB7 := Lib.hid (bt (bt HB.out HBW.out) hb7)
            clear t0 t0z t1 t2 o0 o1 o2 hb7
            go_wp2
            go_roundw
            case measure => simp [intOf]; omega
            case rel => exact ⟨j + 1, by simp, by omega, u0, u1, u2, uz, HB7.out⟩
          · have ht1 : ((zi : Int) != 0) = true := by simpa using hz0
            have ht2 : (zi = 0) = False := by simpa using hz0
            refine Mr_region ad w.heap.size w6.heap.size sb ni ka j zi zo ki ko zn kn xm xk xn xc xs' xb r W (Below.refl _ _) t0 t1 t2 o0 o1 o2 (Lib.hid fun w1 h1 => (h1.cell hbw).trans HD.out.1) (Lib.hid fun w1 h1 => (h1.cell (show ({ block := (ad.add (j * 6)).block, off := (ad.add (j * 6)).off + 1 } : Addr).block < W.heap.size from hbw)).trans HD.out.2.1) (Lib.hid fun w1 h1 => (h1.cell (show ({ block := (ad.add (j * 6)).block, off := (ad.add (j * 6)).off + 2 } : Addr).block < W.heap.size from hbw)).trans HD.out.2.2.1) (Lib.hid fun w1 h1 => (h1.cell (show ({ block := (ad.add (j * 6)).block, off := (ad.add (j * 6)).off + 3 } : Addr).block < W.heap.size from hbw)).trans HD.out.2.2.2.1) (Lib.hid fun w1 h1 => (h1.cell (show ({ block := (ad.add (j * 6)).block, off := (ad.add (j * 6)).off + 4 } : Addr).block < W.heap.size from hbw)).trans HD.out.2.2.2.2.1) (Lib.hid fun w1 h1 => (h1.cell (show ({ block := (ad.add (j * 6)).block, off := (ad.add (j * 6)).off + 5 } : Addr).block < W.heap.size from hbw)).trans HD.out.2.2.2.2.2) hlt q3' (Lib.hid fun w1 h1 => HK1.out w1 (bt HBW.out h1)) (Lib.hid fun w1 h1 => HIS.out w1 (bt HBW.out h1)) (Lib.hid fun w1 _ => HLI.out w1) hz0 ht1 ht2 ?_
            intro w7 _ hb7
            have u0 := cell_call t0 hb7
            have u1 := cell_call t1 hb7
            have u2 := cell_call t2 hb7
            have uz := zz hb7 hzW
            have HB7 := Lib.hid (bt (bt HB.out HBW.out) hb7)
            clear t0 t1 t2 o0 o1 o2 hb7 hz0 ht1 ht2
            go_wp2
            go_roundw
            case measure => simp [intOf]; omega
            case rel => exact ⟨j + 1, by simp, by omega, u0, u1, u2, uz, HB7.out⟩
        · have q3 : decide ((j : Int) < (ni : Int)) = false := decide_eq_false (by omega)
          have q3' : decide (j < ni) = false := decide_eq_false hlt
          go_wp2
          go_ret
          exact ⟨rfl, HBJ.out⟩
end Go.Proofs.YtjpopmgnhgancaaDoor
