/- Trees, items and the kinds of both: part 9. No condition beyond what the theorems state. -/
import Derived.Test.YtjpopmgnhgancaaDoorKdH
namespace Go.Proofs.YtjpopmgnhgancaaDoor
open Go.RowKit Go.Lib
set_option maxRecDepth 100000
set_option maxHeartbeats 8000000
theorem six_new (w : World) (x0 x1 x2 x3 x4 x5 : Value) (t : TypeId) : ∀ j u, [x0, x1, x2, x3, x4, x5][j]? = some u → (w.alloc (.cells #[x0, x1, x2, x3, x4, x5] t)).cell? ((⟨w.heap.size, 0, none⟩ : Addr).add j) = some u := by
  intro j u hu
  match j, hu with
  | 0, hu => cases hu; simp [Addr.add]
  | 1, hu => cases hu; simp [Addr.add]
  | 2, hu => cases hu; simp [Addr.add]
  | 3, hu => cases hu; simp [Addr.add]
  | 4, hu => cases hu; simp [Addr.add]
  | 5, hu => cases hu; simp [Addr.add]
  | j + 6, hu => simp at hu
/-- Ahead of the append. -/
def NpA (w : World) (gt n c np ac i own : Nat) (A : Option Addr) (ad : Addr) (nm vl : List UInt8) (_base : Nat) (_M : List (Tr × Nat)) (c1 c2 c3 c5 c6 c9 c10 c11 c12 c13 c14 c15 c16 c17 c18 c19 c20 c21 c22 c23 c24 c43 c44 c45 c46 c47 c48 c49 c50 c51 c52 c53 c54 c55 c56 c57 c58 : Value) (F : Nat → Bool) (Pa : Act) (W : World) : Prop := ∃ s25 s26 s27 s28 s29 s30 s31 s32 s33 s34 s35 s36 s37 s38 s39 s40 s41 s42 : Value,
  Pa = { tmps := #[.slice A n c, c1, c2, c3, .pointer (some ⟨gt, 0, none⟩), c5, c6, .int .i64 (own : Int), .int .i64 (i : Int), c9, c10, c11, c12, c13, c14, c15, c16, c17, c18, c19, c20, c21, c22, c23, c24, s25, s26, s27, s28, s29, s30, s31, s32, s33, s34, s35, s36, s37, s38, s39, s40, s41, s42, c43, c44, c45, c46, c47, c48, c49, c50, c51, c52, c53, c54, c55, c56, c57, c58], defers := [] } ∧
  F 17 = false ∧ F 18 = false ∧ (F 2 = true → F 1 = true) ∧ (F 4 = true → F 2 = true) ∧ (F 4 = true → F 3 = true) ∧ (F 5 = true → F 4 = true) ∧ (F 6 = true → F 5 = true) ∧ (F 8 = true → F 7 = true) ∧ (F 10 = true → F 8 = true) ∧ (F 10 = true → F 9 = true) ∧ (F 11 = true → F 10 = true) ∧ (F 12 = true → F 11 = true) ∧ (F 13 = true → F 6 = true) ∧ (F 13 = true → F 12 = true) ∧ (F 15 = true → F 13 = true) ∧ (F 15 = true → F 14 = true) ∧ (F 16 = true → F 15 = true) ∧ Below w.heap.size w W ∧
  (F 0 = true → s25 = .slice A n c) ∧ (F 1 = true → s26 = .pointer (some ⟨gt, 3, none⟩)) ∧ (F 2 = true → s27 = .slice (some ad) np ac) ∧ (F 3 = true → s28 = .int .i64 (i : Int)) ∧ (F 4 = true → s29 = .pointer (some (ad.add (i * 2)))) ∧ (F 5 = true → s30 = .pointer (some (ad.add (i * 2)))) ∧ (F 6 = true → s31 = .string (ba' nm)) ∧ (F 7 = true → s32 = .pointer (some ⟨gt, 3, none⟩)) ∧ (F 8 = true → s33 = .slice (some ad) np ac) ∧ (F 9 = true → s34 = .int .i64 (i : Int)) ∧ (F 10 = true → s35 = .pointer (some (ad.add (i * 2)))) ∧ (F 11 = true → s36 = .pointer (some ⟨(ad.add (i * 2)).block, (ad.add (i * 2)).off + 1, none⟩)) ∧ (F 12 = true → s37 = .string (ba' vl)) ∧ (F 13 = true → s38 = .agg #[(.int .i64 3), (.string (ba' nm)), (.string (ba' vl)), (.slice none 0 0), (.slice none 0 0)]) ∧ (F 14 = true → s39 = .int .i64 (own : Int)) ∧ (F 15 = true → s40 = .agg #[(.int .i64 3), (.string (ba' nm)), (.string (ba' vl)), (.slice none 0 0), (.slice none 0 0), (.int .i64 (own : Int))]) ∧ (F 16 = true → ∃ Az cz, s41 = .slice Az 1 cz ∧ RdP (fun b => b < W.heap.size) W 6 Az 1 [.int .i64 3, .string (ba' nm), .string (ba' vl), .slice none 0 0, .slice none 0 0, .int .i64 (own : Int)])
/-- Behind it. -/
def NpB (w : World) (gt n _c _np _ac i own : Nat) (A : Option Addr) (_ad : Addr) (nm vl : List UInt8) (base : Nat) (M : List (Tr × Nat)) (c1 c2 c3 c5 c6 c9 c10 c11 c12 c13 c14 c15 c16 c17 c18 c19 c20 c21 c22 c23 c24 c43 c44 c45 c46 c47 c48 c49 c50 c51 c52 c53 c54 c55 c56 c57 c58 : Value) (F : Nat → Bool) (Pa : Act) (W : World) : Prop := ∃ (s25 s26 s27 s28 s29 s30 s31 s32 s33 s34 s35 s36 s37 s38 s39 s40 s41 s0 : Value) (Ab : Option Addr) (cb : Nat),
  Pa = { tmps := #[s0, c1, c2, c3, .pointer (some ⟨gt, 0, none⟩), c5, c6, .int .i64 (own : Int), .int .i64 (i : Int), c9, c10, c11, c12, c13, c14, c15, c16, c17, c18, c19, c20, c21, c22, c23, c24, s25, s26, s27, s28, s29, s30, s31, s32, s33, s34, s35, s36, s37, s38, s39, s40, s41, .slice Ab (n + 1) cb, c43, c44, c45, c46, c47, c48, c49, c50, c51, c52, c53, c54, c55, c56, c57, c58], defers := [] } ∧
  F 0 = true ∧ F 1 = true ∧ F 2 = true ∧ F 3 = true ∧ F 4 = true ∧ F 5 = true ∧ F 6 = true ∧ F 7 = true ∧ F 8 = true ∧ F 9 = true ∧ F 10 = true ∧ F 11 = true ∧ F 12 = true ∧ F 13 = true ∧ F 14 = true ∧ F 15 = true ∧ F 16 = true ∧ F 17 = true ∧ W.ownsRow base 106 6 (.slice Ab (n + 1) cb) (n + 1) (rowN (M ++ [(attrT (nm, vl), own)])) ∧ Along A w Ab W ∧ (F 18 = true → s0 = .slice Ab (n + 1) cb)
set_option maxHeartbeats 16000000 in
theorem pair_region (w : World) (gt n c np ac i own : Nat) (A : Option Addr) (ad : Addr) (nm vl : List UInt8) (base : Nat) (M : List (Tr × Nat)) (c1 c2 c3 c5 c6 c9 c10 c11 c12 c13 c14 c15 c16 c17 c18 c19 c20 c21 c22 c23 c24 c43 c44 c45 c46 c47 c48 c49 c50 c51 c52 c53 c54 c55 c56 c57 c58 x25 x26 x27 x28 x29 x30 x31 x32 x33 x34 x35 x36 x37 x38 x39 x40 x41 x42 : Value) (Q : Exit → Act → World → Prop) (hO : w.ownsRow base 106 6 (.slice A n c) n (rowN M)) (hbase : base ≤ w.heap.size) (hn6 : n ≤ 1048576) (hi6 : i < np) (_hnp : np ≤ 1048576) (hbx : w.cell? ⟨gt, 3, none⟩ = some (.slice (some ad) np ac)) (hgt : gt < w.heap.size) (had : (ad.add (i * 2)).block < w.heap.size)
    (hd0 : w.cell? (ad.add (i * 2)) = some (.string (ba' nm))) (hd1 : w.cell? ⟨(ad.add (i * 2)).block, (ad.add (i * 2)).off + 1, none⟩ = some (.string (ba' vl)))
    (hQ : ∀ (W : World) (Ab : Option Addr) (cb : Nat) (y25 y26 y27 y28 y29 y30 y31 y32 y33 y34 y35 y36 y37 y38 y39 y40 y41 : Value), W.ownsRow base 106 6 (.slice Ab (n + 1) cb) (n + 1) (rowN (M ++ [(attrT (nm, vl), own)])) → Along A w Ab W → Q .normal { tmps := #[.slice Ab (n + 1) cb, c1, c2, c3, .pointer (some ⟨gt, 0, none⟩), c5, c6, .int .i64 (own : Int), .int .i64 (i : Int), c9, c10, c11, c12, c13, c14, c15, c16, c17, c18, c19, c20, c21, c22, c23, c24, y25, y26, y27, y28, y29, y30, y31, y32, y33, y34, y35, y36, y37, y38, y39, y40, y41, .slice Ab (n + 1) cb, c43, c44, c45, c46, c47, c48, c49, c50, c51, c52, c53, c54, c55, c56, c57, c58], defers := [] } W) :
    Code.wp Tryd.prog ((Tryd.f32.body.bind (regionOf 6)).getD .skip) Q { tmps := #[.slice A n c, c1, c2, c3, .pointer (some ⟨gt, 0, none⟩), c5, c6, .int .i64 (own : Int), .int .i64 (i : Int), c9, c10, c11, c12, c13, c14, c15, c16, c17, c18, c19, c20, c21, c22, c23, c24, x25, x26, x27, x28, x29, x30, x31, x32, x33, x34, x35, x36, x37, x38, x39, x40, x41, x42, c43, c44, c45, c46, c47, c48, c49, c50, c51, c52, c53, c54, c55, c56, c57, c58], defers := [] } w := by
  conv => arg 2; whnf
  refine wp_region_inv (by kernel_rfl) (by kernel_rfl) (fun l a W => NpA w gt n c np ac i own A ad nm vl base M c1 c2 c3 c5 c6 c9 c10 c11 c12 c13 c14 c15 c16 c17 c18 c19 c20 c21 c22 c23 c24 c43 c44 c45 c46 c47 c48 c49 c50 c51 c52 c53 c54 c55 c56 c57 c58 (fun i => l.getD i false) a W ∨ NpB w gt n c np ac i own A ad nm vl base M c1 c2 c3 c5 c6 c9 c10 c11 c12 c13 c14 c15 c16 c17 c18 c19 c20 c21 c22 c23 c24 c43 c44 c45 c46 c47 c48 c49 c50 c51 c52 c53 c54 c55 c56 c57 c58 (fun i => l.getD i false) a W) ?_ ?_ ?_
  · exact .inl ⟨_, _, _, _, _, _, _, _, _, _, _, _, _, _, _, _, _, _, rfl, rfl, rfl, fun h => absurd h l0, fun h => absurd h l0, fun h => absurd h l0, fun h => absurd h l0, fun h => absurd h l0, fun h => absurd h l0, fun h => absurd h l0, fun h => absurd h l0, fun h => absurd h l0, fun h => absurd h l0, fun h => absurd h l0, fun h => absurd h l0, fun h => absurd h l0, fun h => absurd h l0, fun h => absurd h l0, bdr (Below.refl _ _), fun h => absurd h l0, fun h => absurd h l0, fun h => absurd h l0, fun h => absurd h l0, fun h => absurd h l0, fun h => absurd h l0, fun h => absurd h l0, fun h => absurd h l0, fun h => absurd h l0, fun h => absurd h l0, fun h => absurd h l0, fun h => absurd h l0, fun h => absurd h l0, fun h => absurd h l0, fun h => absurd h l0, fun h => absurd h l0, fun h => absurd h l0⟩
  · intro i9 o listed Pa w9 hi9 ho hd hn hI
    have hi' : i9 < 19 := hi9
    clear hi9
    rcases (by omega : i9 = 0 ∨ i9 = 1 ∨ i9 = 2 ∨ i9 = 3 ∨ i9 = 4 ∨ i9 = 5 ∨ i9 = 6 ∨ i9 = 7 ∨ i9 = 8 ∨ i9 = 9 ∨ i9 = 10 ∨ i9 = 11 ∨ i9 = 12 ∨ i9 = 13 ∨ i9 = 14 ∨ i9 = 15 ∨ i9 = 16 ∨ i9 = 17 ∨ i9 = 18) with rfl | rfl | rfl | rfl | rfl | rfl | rfl | rfl | rfl | rfl | rfl | rfl | rfl | rfl | rfl | rfl | rfl | rfl | rfl
    · simp only [List.getElem?_toArray, List.getElem?_cons_zero, Option.some.injEq] at ho
      subst ho
      rcases hI with hI | hI
      · obtain ⟨s25, s26, s27, s28, s29, s30, s31, s32, s33, s34, s35, s36, s37, s38, s39, s40, s41, s42, rfl, q17, q18, g2_1, g4_2, g4_3, g5_4, g6_5, g8_7, g10_8, g10_9, g11_10, g12_11, g13_6, g13_12, g15_13, g15_14, g16_15, hB, f0, f1, f2, f3, f4, f5, f6, f7, f8, f9, f10, f11, f12, f13, f14, f15, f16⟩ := hI
        refine wpOp_step rfl (fun K hK => ?_)
        go_simp
        refine hK _ _ (.inl ?_)
        unfold NpA
        simp only [flag_ne (i := 0) 1 (by decide), flag_ne (i := 0) 2 (by decide), flag_ne (i := 0) 3 (by decide), flag_ne (i := 0) 4 (by decide), flag_ne (i := 0) 5 (by decide), flag_ne (i := 0) 6 (by decide), flag_ne (i := 0) 7 (by decide), flag_ne (i := 0) 8 (by decide), flag_ne (i := 0) 9 (by decide), flag_ne (i := 0) 10 (by decide), flag_ne (i := 0) 11 (by decide), flag_ne (i := 0) 12 (by decide), flag_ne (i := 0) 13 (by decide), flag_ne (i := 0) 14 (by decide), flag_ne (i := 0) 15 (by decide), flag_ne (i := 0) 16 (by decide), flag_ne (i := 0) 17 (by decide), flag_ne (i := 0) 18 (by decide), lself hn]
        exact ⟨_, _, _, _, _, _, _, _, _, _, _, _, _, _, _, _, _, _, rfl, q17, q18, fun h => g2_1 h, fun h => g4_2 h, fun h => g4_3 h, fun h => g5_4 h, fun h => g6_5 h, fun h => g8_7 h, fun h => g10_8 h, fun h => g10_9 h, fun h => g11_10 h, fun h => g12_11 h, fun h => g13_6 h, fun h => g13_12 h, fun h => g15_13 h, fun h => g15_14 h, fun h => g16_15 h, hB, fun _ => rfl, fun h => f1 h, fun h => f2 h, fun h => f3 h, fun h => f4 h, fun h => f5 h, fun h => f6 h, fun h => f7 h, fun h => f8 h, fun h => f9 h, fun h => f10 h, fun h => f11 h, fun h => f12 h, fun h => f13 h, fun h => f14 h, fun h => f15 h, fun h => f16 h⟩
      · obtain ⟨s25, s26, s27, s28, s29, s30, s31, s32, s33, s34, s35, s36, s37, s38, s39, s40, s41, s0, Ab, cb, rfl, q0, q1, q2, q3, q4, q5, q6, q7, q8, q9, q10, q11, q12, q13, q14, q15, q16, q17, hO, hL, f18⟩ := hI
        exact lc hn q0
    · simp only [List.getElem?_toArray, List.getElem?_cons_zero, List.getElem?_cons_succ, Option.some.injEq] at ho
      subst ho
      rcases hI with hI | hI
      · obtain ⟨s25, s26, s27, s28, s29, s30, s31, s32, s33, s34, s35, s36, s37, s38, s39, s40, s41, s42, rfl, q17, q18, g2_1, g4_2, g4_3, g5_4, g6_5, g8_7, g10_8, g10_9, g11_10, g12_11, g13_6, g13_12, g15_13, g15_14, g16_15, hB, f0, f1, f2, f3, f4, f5, f6, f7, f8, f9, f10, f11, f12, f13, f14, f15, f16⟩ := hI
        refine wpOp_step rfl (fun K hK => ?_)
        go_simp
        refine hK _ _ (.inl ?_)
        unfold NpA
        simp only [flag_ne (i := 1) 0 (by decide), flag_ne (i := 1) 2 (by decide), flag_ne (i := 1) 3 (by decide), flag_ne (i := 1) 4 (by decide), flag_ne (i := 1) 5 (by decide), flag_ne (i := 1) 6 (by decide), flag_ne (i := 1) 7 (by decide), flag_ne (i := 1) 8 (by decide), flag_ne (i := 1) 9 (by decide), flag_ne (i := 1) 10 (by decide), flag_ne (i := 1) 11 (by decide), flag_ne (i := 1) 12 (by decide), flag_ne (i := 1) 13 (by decide), flag_ne (i := 1) 14 (by decide), flag_ne (i := 1) 15 (by decide), flag_ne (i := 1) 16 (by decide), flag_ne (i := 1) 17 (by decide), flag_ne (i := 1) 18 (by decide), lself hn]
        exact ⟨_, _, _, _, _, _, _, _, _, _, _, _, _, _, _, _, _, _, rfl, q17, q18, (by first | exact fun _ => rfl | exact fun _ => trivial | trivial), fun h => g4_2 h, fun h => g4_3 h, fun h => g5_4 h, fun h => g6_5 h, fun h => g8_7 h, fun h => g10_8 h, fun h => g10_9 h, fun h => g11_10 h, fun h => g12_11 h, fun h => g13_6 h, fun h => g13_12 h, fun h => g15_13 h, fun h => g15_14 h, fun h => g16_15 h, hB, fun h => f0 h, fun _ => rfl, fun h => f2 h, fun h => f3 h, fun h => f4 h, fun h => f5 h, fun h => f6 h, fun h => f7 h, fun h => f8 h, fun h => f9 h, fun h => f10 h, fun h => f11 h, fun h => f12 h, fun h => f13 h, fun h => f14 h, fun h => f15 h, fun h => f16 h⟩
      · obtain ⟨s25, s26, s27, s28, s29, s30, s31, s32, s33, s34, s35, s36, s37, s38, s39, s40, s41, s0, Ab, cb, rfl, q0, q1, q2, q3, q4, q5, q6, q7, q8, q9, q10, q11, q12, q13, q14, q15, q16, q17, hO, hL, f18⟩ := hI
        exact lc hn q1
    · simp only [List.getElem?_toArray, List.getElem?_cons_zero, List.getElem?_cons_succ, Option.some.injEq] at ho
      subst ho
      rcases hI with hI | hI
      · obtain ⟨s25, s26, s27, s28, s29, s30, s31, s32, s33, s34, s35, s36, s37, s38, s39, s40, s41, s42, rfl, q17, q18, g2_1, g4_2, g4_3, g5_4, g6_5, g8_7, g10_8, g10_9, g11_10, g12_11, g13_6, g13_12, g15_13, g15_14, g16_15, hB, f0, f1, f2, f3, f4, f5, f6, f7, f8, f9, f10, f11, f12, f13, f14, f15, f16⟩ := hI
        obtain rfl := f1 (hd ⟨1, .data⟩ (by simp) rfl)
        have hc := (hB.cell (p := ⟨gt, 3, none⟩) hgt).trans hbx
        refine wpOp_step rfl (fun K hK => ?_)
        go_simp
        refine hK _ _ (.inl ?_)
        unfold NpA
        simp only [flag_ne (i := 2) 0 (by decide), flag_ne (i := 2) 1 (by decide), flag_ne (i := 2) 3 (by decide), flag_ne (i := 2) 4 (by decide), flag_ne (i := 2) 5 (by decide), flag_ne (i := 2) 6 (by decide), flag_ne (i := 2) 7 (by decide), flag_ne (i := 2) 8 (by decide), flag_ne (i := 2) 9 (by decide), flag_ne (i := 2) 10 (by decide), flag_ne (i := 2) 11 (by decide), flag_ne (i := 2) 12 (by decide), flag_ne (i := 2) 13 (by decide), flag_ne (i := 2) 14 (by decide), flag_ne (i := 2) 15 (by decide), flag_ne (i := 2) 16 (by decide), flag_ne (i := 2) 17 (by decide), flag_ne (i := 2) 18 (by decide), lself hn]
        exact ⟨_, _, _, _, _, _, _, _, _, _, _, _, _, _, _, _, _, _, rfl, q17, q18, fun _ => (hd ⟨1, .data⟩ (by simp) rfl), (by first | exact fun _ => rfl | exact fun _ => trivial | trivial), fun h => g4_3 h, fun h => g5_4 h, fun h => g6_5 h, fun h => g8_7 h, fun h => g10_8 h, fun h => g10_9 h, fun h => g11_10 h, fun h => g12_11 h, fun h => g13_6 h, fun h => g13_12 h, fun h => g15_13 h, fun h => g15_14 h, fun h => g16_15 h, hB, fun h => f0 h, fun h => f1 h, fun _ => rfl, fun h => f3 h, fun h => f4 h, fun h => f5 h, fun h => f6 h, fun h => f7 h, fun h => f8 h, fun h => f9 h, fun h => f10 h, fun h => f11 h, fun h => f12 h, fun h => f13 h, fun h => f14 h, fun h => f15 h, fun h => f16 h⟩
      · obtain ⟨s25, s26, s27, s28, s29, s30, s31, s32, s33, s34, s35, s36, s37, s38, s39, s40, s41, s0, Ab, cb, rfl, q0, q1, q2, q3, q4, q5, q6, q7, q8, q9, q10, q11, q12, q13, q14, q15, q16, q17, hO, hL, f18⟩ := hI
        exact lc hn q2
    · simp only [List.getElem?_toArray, List.getElem?_cons_zero, List.getElem?_cons_succ, Option.some.injEq] at ho
      subst ho
      rcases hI with hI | hI
      · obtain ⟨s25, s26, s27, s28, s29, s30, s31, s32, s33, s34, s35, s36, s37, s38, s39, s40, s41, s42, rfl, q17, q18, g2_1, g4_2, g4_3, g5_4, g6_5, g8_7, g10_8, g10_9, g11_10, g12_11, g13_6, g13_12, g15_13, g15_14, g16_15, hB, f0, f1, f2, f3, f4, f5, f6, f7, f8, f9, f10, f11, f12, f13, f14, f15, f16⟩ := hI
        refine wpOp_step rfl (fun K hK => ?_)
        go_simp
        refine hK _ _ (.inl ?_)
        unfold NpA
        simp only [flag_ne (i := 3) 0 (by decide), flag_ne (i := 3) 1 (by decide), flag_ne (i := 3) 2 (by decide), flag_ne (i := 3) 4 (by decide), flag_ne (i := 3) 5 (by decide), flag_ne (i := 3) 6 (by decide), flag_ne (i := 3) 7 (by decide), flag_ne (i := 3) 8 (by decide), flag_ne (i := 3) 9 (by decide), flag_ne (i := 3) 10 (by decide), flag_ne (i := 3) 11 (by decide), flag_ne (i := 3) 12 (by decide), flag_ne (i := 3) 13 (by decide), flag_ne (i := 3) 14 (by decide), flag_ne (i := 3) 15 (by decide), flag_ne (i := 3) 16 (by decide), flag_ne (i := 3) 17 (by decide), flag_ne (i := 3) 18 (by decide), lself hn]
        exact ⟨_, _, _, _, _, _, _, _, _, _, _, _, _, _, _, _, _, _, rfl, q17, q18, fun h => g2_1 h, fun h => g4_2 h, (by first | exact fun _ => rfl | exact fun _ => trivial | trivial), fun h => g5_4 h, fun h => g6_5 h, fun h => g8_7 h, fun h => g10_8 h, fun h => g10_9 h, fun h => g11_10 h, fun h => g12_11 h, fun h => g13_6 h, fun h => g13_12 h, fun h => g15_13 h, fun h => g15_14 h, fun h => g16_15 h, hB, fun h => f0 h, fun h => f1 h, fun h => f2 h, fun _ => rfl, fun h => f4 h, fun h => f5 h, fun h => f6 h, fun h => f7 h, fun h => f8 h, fun h => f9 h, fun h => f10 h, fun h => f11 h, fun h => f12 h, fun h => f13 h, fun h => f14 h, fun h => f15 h, fun h => f16 h⟩
      · obtain ⟨s25, s26, s27, s28, s29, s30, s31, s32, s33, s34, s35, s36, s37, s38, s39, s40, s41, s0, Ab, cb, rfl, q0, q1, q2, q3, q4, q5, q6, q7, q8, q9, q10, q11, q12, q13, q14, q15, q16, q17, hO, hL, f18⟩ := hI
        exact lc hn q3
    · simp only [List.getElem?_toArray, List.getElem?_cons_zero, List.getElem?_cons_succ, Option.some.injEq] at ho
      subst ho
      rcases hI with hI | hI
      · obtain ⟨s25, s26, s27, s28, s29, s30, s31, s32, s33, s34, s35, s36, s37, s38, s39, s40, s41, s42, rfl, q17, q18, g2_1, g4_2, g4_3, g5_4, g6_5, g8_7, g10_8, g10_9, g11_10, g12_11, g13_6, g13_12, g15_13, g15_14, g16_15, hB, f0, f1, f2, f3, f4, f5, f6, f7, f8, f9, f10, f11, f12, f13, f14, f15, f16⟩ := hI
        obtain rfl := f2 (hd ⟨2, .data⟩ (by simp) rfl)
        obtain rfl := f3 (hd ⟨3, .data⟩ (by simp) rfl)
        have gl : decide ((i : Int) < (np : Int)) = true := by simp; omega
        have gn : decide (i < np) = true := by simpa using hi6
        refine wpOp_step rfl (fun K hK => ?_)
        go_simp
        refine hK _ _ (.inl ?_)
        unfold NpA
        simp only [flag_ne (i := 4) 0 (by decide), flag_ne (i := 4) 1 (by decide), flag_ne (i := 4) 2 (by decide), flag_ne (i := 4) 3 (by decide), flag_ne (i := 4) 5 (by decide), flag_ne (i := 4) 6 (by decide), flag_ne (i := 4) 7 (by decide), flag_ne (i := 4) 8 (by decide), flag_ne (i := 4) 9 (by decide), flag_ne (i := 4) 10 (by decide), flag_ne (i := 4) 11 (by decide), flag_ne (i := 4) 12 (by decide), flag_ne (i := 4) 13 (by decide), flag_ne (i := 4) 14 (by decide), flag_ne (i := 4) 15 (by decide), flag_ne (i := 4) 16 (by decide), flag_ne (i := 4) 17 (by decide), flag_ne (i := 4) 18 (by decide), lself hn]
        exact ⟨_, _, _, _, _, _, _, _, _, _, _, _, _, _, _, _, _, _, rfl, q17, q18, fun h => g2_1 h, fun _ => (hd ⟨2, .data⟩ (by simp) rfl), fun _ => (hd ⟨3, .data⟩ (by simp) rfl), (by first | exact fun _ => rfl | exact fun _ => trivial | trivial), fun h => g6_5 h, fun h => g8_7 h, fun h => g10_8 h, fun h => g10_9 h, fun h => g11_10 h, fun h => g12_11 h, fun h => g13_6 h, fun h => g13_12 h, fun h => g15_13 h, fun h => g15_14 h, fun h => g16_15 h, hB, fun h => f0 h, fun h => f1 h, fun h => f2 h, fun h => f3 h, fun _ => rfl, fun h => f5 h, fun h => f6 h, fun h => f7 h, fun h => f8 h, fun h => f9 h, fun h => f10 h, fun h => f11 h, fun h => f12 h, fun h => f13 h, fun h => f14 h, fun h => f15 h, fun h => f16 h⟩
      · obtain ⟨s25, s26, s27, s28, s29, s30, s31, s32, s33, s34, s35, s36, s37, s38, s39, s40, s41, s0, Ab, cb, rfl, q0, q1, q2, q3, q4, q5, q6, q7, q8, q9, q10, q11, q12, q13, q14, q15, q16, q17, hO, hL, f18⟩ := hI
        exact lc hn q4
    · simp only [List.getElem?_toArray, List.getElem?_cons_zero, List.getElem?_cons_succ, Option.some.injEq] at ho
      subst ho
      rcases hI with hI | hI
      · obtain ⟨s25, s26, s27, s28, s29, s30, s31, s32, s33, s34, s35, s36, s37, s38, s39, s40, s41, s42, rfl, q17, q18, g2_1, g4_2, g4_3, g5_4, g6_5, g8_7, g10_8, g10_9, g11_10, g12_11, g13_6, g13_12, g15_13, g15_14, g16_15, hB, f0, f1, f2, f3, f4, f5, f6, f7, f8, f9, f10, f11, f12, f13, f14, f15, f16⟩ := hI
        obtain rfl := f4 (hd ⟨4, .data⟩ (by simp) rfl)
        refine wpOp_step rfl (fun K hK => ?_)
        go_simp
        refine hK _ _ (.inl ?_)
        unfold NpA
        simp only [flag_ne (i := 5) 0 (by decide), flag_ne (i := 5) 1 (by decide), flag_ne (i := 5) 2 (by decide), flag_ne (i := 5) 3 (by decide), flag_ne (i := 5) 4 (by decide), flag_ne (i := 5) 6 (by decide), flag_ne (i := 5) 7 (by decide), flag_ne (i := 5) 8 (by decide), flag_ne (i := 5) 9 (by decide), flag_ne (i := 5) 10 (by decide), flag_ne (i := 5) 11 (by decide), flag_ne (i := 5) 12 (by decide), flag_ne (i := 5) 13 (by decide), flag_ne (i := 5) 14 (by decide), flag_ne (i := 5) 15 (by decide), flag_ne (i := 5) 16 (by decide), flag_ne (i := 5) 17 (by decide), flag_ne (i := 5) 18 (by decide), lself hn]
        exact ⟨_, _, _, _, _, _, _, _, _, _, _, _, _, _, _, _, _, _, rfl, q17, q18, fun h => g2_1 h, fun h => g4_2 h, fun h => g4_3 h, fun _ => (hd ⟨4, .data⟩ (by simp) rfl), (by first | exact fun _ => rfl | exact fun _ => trivial | trivial), fun h => g8_7 h, fun h => g10_8 h, fun h => g10_9 h, fun h => g11_10 h, fun h => g12_11 h, fun h => g13_6 h, fun h => g13_12 h, fun h => g15_13 h, fun h => g15_14 h, fun h => g16_15 h, hB, fun h => f0 h, fun h => f1 h, fun h => f2 h, fun h => f3 h, fun h => f4 h, fun _ => rfl, fun h => f6 h, fun h => f7 h, fun h => f8 h, fun h => f9 h, fun h => f10 h, fun h => f11 h, fun h => f12 h, fun h => f13 h, fun h => f14 h, fun h => f15 h, fun h => f16 h⟩
      · obtain ⟨s25, s26, s27, s28, s29, s30, s31, s32, s33, s34, s35, s36, s37, s38, s39, s40, s41, s0, Ab, cb, rfl, q0, q1, q2, q3, q4, q5, q6, q7, q8, q9, q10, q11, q12, q13, q14, q15, q16, q17, hO, hL, f18⟩ := hI
        exact lc hn q5
    · simp only [List.getElem?_toArray, List.getElem?_cons_zero, List.getElem?_cons_succ, Option.some.injEq] at ho
      subst ho
      rcases hI with hI | hI
      · obtain ⟨s25, s26, s27, s28, s29, s30, s31, s32, s33, s34, s35, s36, s37, s38, s39, s40, s41, s42, rfl, q17, q18, g2_1, g4_2, g4_3, g5_4, g6_5, g8_7, g10_8, g10_9, g11_10, g12_11, g13_6, g13_12, g15_13, g15_14, g16_15, hB, f0, f1, f2, f3, f4, f5, f6, f7, f8, f9, f10, f11, f12, f13, f14, f15, f16⟩ := hI
        obtain rfl := f5 (hd ⟨5, .data⟩ (by simp) rfl)
        have hc := (hB.cell had).trans hd0
        refine wpOp_step rfl (fun K hK => ?_)
        go_simp
        refine hK _ _ (.inl ?_)
        unfold NpA
        simp only [flag_ne (i := 6) 0 (by decide), flag_ne (i := 6) 1 (by decide), flag_ne (i := 6) 2 (by decide), flag_ne (i := 6) 3 (by decide), flag_ne (i := 6) 4 (by decide), flag_ne (i := 6) 5 (by decide), flag_ne (i := 6) 7 (by decide), flag_ne (i := 6) 8 (by decide), flag_ne (i := 6) 9 (by decide), flag_ne (i := 6) 10 (by decide), flag_ne (i := 6) 11 (by decide), flag_ne (i := 6) 12 (by decide), flag_ne (i := 6) 13 (by decide), flag_ne (i := 6) 14 (by decide), flag_ne (i := 6) 15 (by decide), flag_ne (i := 6) 16 (by decide), flag_ne (i := 6) 17 (by decide), flag_ne (i := 6) 18 (by decide), lself hn]
        exact ⟨_, _, _, _, _, _, _, _, _, _, _, _, _, _, _, _, _, _, rfl, q17, q18, fun h => g2_1 h, fun h => g4_2 h, fun h => g4_3 h, fun h => g5_4 h, fun _ => (hd ⟨5, .data⟩ (by simp) rfl), fun h => g8_7 h, fun h => g10_8 h, fun h => g10_9 h, fun h => g11_10 h, fun h => g12_11 h, (by first | exact fun _ => rfl | exact fun _ => trivial | trivial), fun h => g13_12 h, fun h => g15_13 h, fun h => g15_14 h, fun h => g16_15 h, hB, fun h => f0 h, fun h => f1 h, fun h => f2 h, fun h => f3 h, fun h => f4 h, fun h => f5 h, fun _ => rfl, fun h => f7 h, fun h => f8 h, fun h => f9 h, fun h => f10 h, fun h => f11 h, fun h => f12 h, fun h => f13 h, fun h => f14 h, fun h => f15 h, fun h => f16 h⟩
      · obtain ⟨s25, s26, s27, s28, s29, s30, s31, s32, s33, s34, s35, s36, s37, s38, s39, s40, s41, s0, Ab, cb, rfl, q0, q1, q2, q3, q4, q5, q6, q7, q8, q9, q10, q11, q12, q13, q14, q15, q16, q17, hO, hL, f18⟩ := hI
        exact lc hn q6
    · simp only [List.getElem?_toArray, List.getElem?_cons_zero, List.getElem?_cons_succ, Option.some.injEq] at ho
      subst ho
      rcases hI with hI | hI
      · obtain ⟨s25, s26, s27, s28, s29, s30, s31, s32, s33, s34, s35, s36, s37, s38, s39, s40, s41, s42, rfl, q17, q18, g2_1, g4_2, g4_3, g5_4, g6_5, g8_7, g10_8, g10_9, g11_10, g12_11, g13_6, g13_12, g15_13, g15_14, g16_15, hB, f0, f1, f2, f3, f4, f5, f6, f7, f8, f9, f10, f11, f12, f13, f14, f15, f16⟩ := hI
        refine wpOp_step rfl (fun K hK => ?_)
        go_simp
        refine hK _ _ (.inl ?_)
        unfold NpA
        simp only [flag_ne (i := 7) 0 (by decide), flag_ne (i := 7) 1 (by decide), flag_ne (i := 7) 2 (by decide), flag_ne (i := 7) 3 (by decide), flag_ne (i := 7) 4 (by decide), flag_ne (i := 7) 5 (by decide), flag_ne (i := 7) 6 (by decide), flag_ne (i := 7) 8 (by decide), flag_ne (i := 7) 9 (by decide), flag_ne (i := 7) 10 (by decide), flag_ne (i := 7) 11 (by decide), flag_ne (i := 7) 12 (by decide), flag_ne (i := 7) 13 (by decide), flag_ne (i := 7) 14 (by decide), flag_ne (i := 7) 15 (by decide), flag_ne (i := 7) 16 (by decide), flag_ne (i := 7) 17 (by decide), flag_ne (i := 7) 18 (by decide), lself hn]
        exact ⟨_, _, _, _, _, _, _, _, _, _, _, _, _, _, _, _, _, _, rfl, q17, q18, fun h => g2_1 h, fun h => g4_2 h, fun h => g4_3 h, fun h => g5_4 h, fun h => g6_5 h, (by first | exact fun _ => rfl | exact fun _ => trivial | trivial), fun h => g10_8 h, fun h => g10_9 h, fun h => g11_10 h, fun h => g12_11 h, fun h => g13_6 h, fun h => g13_12 h, fun h => g15_13 h, fun h => g15_14 h, fun h => g16_15 h, hB, fun h => f0 h, fun h => f1 h, fun h => f2 h, fun h => f3 h, fun h => f4 h, fun h => f5 h, fun h => f6 h, fun _ => rfl, fun h => f8 h, fun h => f9 h, fun h => f10 h, fun h => f11 h, fun h => f12 h, fun h => f13 h, fun h => f14 h, fun h => f15 h, fun h => f16 h⟩
      · obtain ⟨s25, s26, s27, s28, s29, s30, s31, s32, s33, s34, s35, s36, s37, s38, s39, s40, s41, s0, Ab, cb, rfl, q0, q1, q2, q3, q4, q5, q6, q7, q8, q9, q10, q11, q12, q13, q14, q15, q16, q17, hO, hL, f18⟩ := hI
        exact lc hn q7
    · simp only [List.getElem?_toArray, List.getElem?_cons_zero, List.getElem?_cons_succ, Option.some.injEq] at ho
      subst ho
      rcases hI with hI | hI
      · obtain ⟨s25, s26, s27, s28, s29, s30, s31, s32, s33, s34, s35, s36, s37, s38, s39, s40, s41, s42, rfl, q17, q18, g2_1, g4_2, g4_3, g5_4, g6_5, g8_7, g10_8, g10_9, g11_10, g12_11, g13_6, g13_12, g15_13, g15_14, g16_15, hB, f0, f1, f2, f3, f4, f5, f6, f7, f8, f9, f10, f11, f12, f13, f14, f15, f16⟩ := hI
        obtain rfl := f7 (hd ⟨7, .data⟩ (by simp) rfl)
        have hc := (hB.cell (p := ⟨gt, 3, none⟩) hgt).trans hbx
        refine wpOp_step rfl (fun K hK => ?_)
        go_simp
        refine hK _ _ (.inl ?_)
        unfold NpA
        simp only [flag_ne (i := 8) 0 (by decide), flag_ne (i := 8) 1 (by decide), flag_ne (i := 8) 2 (by decide), flag_ne (i := 8) 3 (by decide), flag_ne (i := 8) 4 (by decide), flag_ne (i := 8) 5 (by decide), flag_ne (i := 8) 6 (by decide), flag_ne (i := 8) 7 (by decide), flag_ne (i := 8) 9 (by decide), flag_ne (i := 8) 10 (by decide), flag_ne (i := 8) 11 (by decide), flag_ne (i := 8) 12 (by decide), flag_ne (i := 8) 13 (by decide), flag_ne (i := 8) 14 (by decide), flag_ne (i := 8) 15 (by decide), flag_ne (i := 8) 16 (by decide), flag_ne (i := 8) 17 (by decide), flag_ne (i := 8) 18 (by decide), lself hn]
        exact ⟨_, _, _, _, _, _, _, _, _, _, _, _, _, _, _, _, _, _, rfl, q17, q18, fun h => g2_1 h, fun h => g4_2 h, fun h => g4_3 h, fun h => g5_4 h, fun h => g6_5 h, fun _ => (hd ⟨7, .data⟩ (by simp) rfl), (by first | exact fun _ => rfl | exact fun _ => trivial | trivial), fun h => g10_9 h, fun h => g11_10 h, fun h => g12_11 h, fun h => g13_6 h, fun h => g13_12 h, fun h => g15_13 h, fun h => g15_14 h, fun h => g16_15 h, hB, fun h => f0 h, fun h => f1 h, fun h => f2 h, fun h => f3 h, fun h => f4 h, fun h => f5 h, fun h => f6 h, fun h => f7 h, fun _ => rfl, fun h => f9 h, fun h => f10 h, fun h => f11 h, fun h => f12 h, fun h => f13 h, fun h => f14 h, fun h => f15 h, fun h => f16 h⟩
      · obtain ⟨s25, s26, s27, s28, s29, s30, s31, s32, s33, s34, s35, s36, s37, s38, s39, s40, s41, s0, Ab, cb, rfl, q0, q1, q2, q3, q4, q5, q6, q7, q8, q9, q10, q11, q12, q13, q14, q15, q16, q17, hO, hL, f18⟩ := hI
        exact lc hn q8
    · simp only [List.getElem?_toArray, List.getElem?_cons_zero, List.getElem?_cons_succ, Option.some.injEq] at ho
      subst ho
      rcases hI with hI | hI
      · obtain ⟨s25, s26, s27, s28, s29, s30, s31, s32, s33, s34, s35, s36, s37, s38, s39, s40, s41, s42, rfl, q17, q18, g2_1, g4_2, g4_3, g5_4, g6_5, g8_7, g10_8, g10_9, g11_10, g12_11, g13_6, g13_12, g15_13, g15_14, g16_15, hB, f0, f1, f2, f3, f4, f5, f6, f7, f8, f9, f10, f11, f12, f13, f14, f15, f16⟩ := hI
        refine wpOp_step rfl (fun K hK => ?_)
        go_simp
        refine hK _ _ (.inl ?_)
        unfold NpA
        simp only [flag_ne (i := 9) 0 (by decide), flag_ne (i := 9) 1 (by decide), flag_ne (i := 9) 2 (by decide), flag_ne (i := 9) 3 (by decide), flag_ne (i := 9) 4 (by decide), flag_ne (i := 9) 5 (by decide), flag_ne (i := 9) 6 (by decide), flag_ne (i := 9) 7 (by decide), flag_ne (i := 9) 8 (by decide), flag_ne (i := 9) 10 (by decide), flag_ne (i := 9) 11 (by decide), flag_ne (i := 9) 12 (by decide), flag_ne (i := 9) 13 (by decide), flag_ne (i := 9) 14 (by decide), flag_ne (i := 9) 15 (by decide), flag_ne (i := 9) 16 (by decide), flag_ne (i := 9) 17 (by decide), flag_ne (i := 9) 18 (by decide), lself hn]
        exact ⟨_, _, _, _, _, _, _, _, _, _, _, _, _, _, _, _, _, _, rfl, q17, q18, fun h => g2_1 h, fun h => g4_2 h, fun h => g4_3 h, fun h => g5_4 h, fun h => g6_5 h, fun h => g8_7 h, fun h => g10_8 h, (by first | exact fun _ => rfl | exact fun _ => trivial | trivial), fun h => g11_10 h, fun h => g12_11 h, fun h => g13_6 h, fun h => g13_12 h, fun h => g15_13 h, fun h => g15_14 h, fun h => g16_15 h, hB, fun h => f0 h, fun h => f1 h, fun h => f2 h, fun h => f3 h, fun h => f4 h, fun h => f5 h, fun h => f6 h, fun h => f7 h, fun h => f8 h, fun _ => rfl, fun h => f10 h, fun h => f11 h, fun h => f12 h, fun h => f13 h, fun h => f14 h, fun h => f15 h, fun h => f16 h⟩
      · obtain ⟨s25, s26, s27, s28, s29, s30, s31, s32, s33, s34, s35, s36, s37, s38, s39, s40, s41, s0, Ab, cb, rfl, q0, q1, q2, q3, q4, q5, q6, q7, q8, q9, q10, q11, q12, q13, q14, q15, q16, q17, hO, hL, f18⟩ := hI
        exact lc hn q9
    · simp only [List.getElem?_toArray, List.getElem?_cons_zero, List.getElem?_cons_succ, Option.some.injEq] at ho
      subst ho
      rcases hI with hI | hI
      · obtain ⟨s25, s26, s27, s28, s29, s30, s31, s32, s33, s34, s35, s36, s37, s38, s39, s40, s41, s42, rfl, q17, q18, g2_1, g4_2, g4_3, g5_4, g6_5, g8_7, g10_8, g10_9, g11_10, g12_11, g13_6, g13_12, g15_13, g15_14, g16_15, hB, f0, f1, f2, f3, f4, f5, f6, f7, f8, f9, f10, f11, f12, f13, f14, f15, f16⟩ := hI
        obtain rfl := f8 (hd ⟨8, .data⟩ (by simp) rfl)
        obtain rfl := f9 (hd ⟨9, .data⟩ (by simp) rfl)
        have gl : decide ((i : Int) < (np : Int)) = true := by simp; omega
        have gn : decide (i < np) = true := by simpa using hi6
        refine wpOp_step rfl (fun K hK => ?_)
        go_simp
        refine hK _ _ (.inl ?_)
        unfold NpA
        simp only [flag_ne (i := 10) 0 (by decide), flag_ne (i := 10) 1 (by decide), flag_ne (i := 10) 2 (by decide), flag_ne (i := 10) 3 (by decide), flag_ne (i := 10) 4 (by decide), flag_ne (i := 10) 5 (by decide), flag_ne (i := 10) 6 (by decide), flag_ne (i := 10) 7 (by decide), flag_ne (i := 10) 8 (by decide), flag_ne (i := 10) 9 (by decide), flag_ne (i := 10) 11 (by decide), flag_ne (i := 10) 12 (by decide), flag_ne (i := 10) 13 (by decide), flag_ne (i := 10) 14 (by decide), flag_ne (i := 10) 15 (by decide), flag_ne (i := 10) 16 (by decide), flag_ne (i := 10) 17 (by decide), flag_ne (i := 10) 18 (by decide), lself hn]
        exact ⟨_, _, _, _, _, _, _, _, _, _, _, _, _, _, _, _, _, _, rfl, q17, q18, fun h => g2_1 h, fun h => g4_2 h, fun h => g4_3 h, fun h => g5_4 h, fun h => g6_5 h, fun h => g8_7 h, fun _ => (hd ⟨8, .data⟩ (by simp) rfl), fun _ => (hd ⟨9, .data⟩ (by simp) rfl), (by first | exact fun _ => rfl | exact fun _ => trivial | trivial), fun h => g12_11 h, fun h => g13_6 h, fun h => g13_12 h, fun h => g15_13 h, fun h => g15_14 h, fun h => g16_15 h, hB, fun h => f0 h, fun h => f1 h, fun h => f2 h, fun h => f3 h, fun h => f4 h, fun h => f5 h, fun h => f6 h, fun h => f7 h, fun h => f8 h, fun h => f9 h, fun _ => rfl, fun h => f11 h, fun h => f12 h, fun h => f13 h, fun h => f14 h, fun h => f15 h, fun h => f16 h⟩
      · obtain ⟨s25, s26, s27, s28, s29, s30, s31, s32, s33, s34, s35, s36, s37, s38, s39, s40, s41, s0, Ab, cb, rfl, q0, q1, q2, q3, q4, q5, q6, q7, q8, q9, q10, q11, q12, q13, q14, q15, q16, q17, hO, hL, f18⟩ := hI
        exact lc hn q10
    · simp only [List.getElem?_toArray, List.getElem?_cons_zero, List.getElem?_cons_succ, Option.some.injEq] at ho
      subst ho
      rcases hI with hI | hI
      · obtain ⟨s25, s26, s27, s28, s29, s30, s31, s32, s33, s34, s35, s36, s37, s38, s39, s40, s41, s42, rfl, q17, q18, g2_1, g4_2, g4_3, g5_4, g6_5, g8_7, g10_8, g10_9, g11_10, g12_11, g13_6, g13_12, g15_13, g15_14, g16_15, hB, f0, f1, f2, f3, f4, f5, f6, f7, f8, f9, f10, f11, f12, f13, f14, f15, f16⟩ := hI
        obtain rfl := f10 (hd ⟨10, .data⟩ (by simp) rfl)
        refine wpOp_step rfl (fun K hK => ?_)
        go_simp
        refine hK _ _ (.inl ?_)
        unfold NpA
        simp only [flag_ne (i := 11) 0 (by decide), flag_ne (i := 11) 1 (by decide), flag_ne (i := 11) 2 (by decide), flag_ne (i := 11) 3 (by decide), flag_ne (i := 11) 4 (by decide), flag_ne (i := 11) 5 (by decide), flag_ne (i := 11) 6 (by decide), flag_ne (i := 11) 7 (by decide), flag_ne (i := 11) 8 (by decide), flag_ne (i := 11) 9 (by decide), flag_ne (i := 11) 10 (by decide), flag_ne (i := 11) 12 (by decide), flag_ne (i := 11) 13 (by decide), flag_ne (i := 11) 14 (by decide), flag_ne (i := 11) 15 (by decide), flag_ne (i := 11) 16 (by decide), flag_ne (i := 11) 17 (by decide), flag_ne (i := 11) 18 (by decide), lself hn]
        exact ⟨_, _, _, _, _, _, _, _, _, _, _, _, _, _, _, _, _, _, rfl, q17, q18, fun h => g2_1 h, fun h => g4_2 h, fun h => g4_3 h, fun h => g5_4 h, fun h => g6_5 h, fun h => g8_7 h, fun h => g10_8 h, fun h => g10_9 h, fun _ => (hd ⟨10, .data⟩ (by simp) rfl), (by first | exact fun _ => rfl | exact fun _ => trivial | trivial), fun h => g13_6 h, fun h => g13_12 h, fun h => g15_13 h, fun h => g15_14 h, fun h => g16_15 h, hB, fun h => f0 h, fun h => f1 h, fun h => f2 h, fun h => f3 h, fun h => f4 h, fun h => f5 h, fun h => f6 h, fun h => f7 h, fun h => f8 h, fun h => f9 h, fun h => f10 h, fun _ => rfl, fun h => f12 h, fun h => f13 h, fun h => f14 h, fun h => f15 h, fun h => f16 h⟩
      · obtain ⟨s25, s26, s27, s28, s29, s30, s31, s32, s33, s34, s35, s36, s37, s38, s39, s40, s41, s0, Ab, cb, rfl, q0, q1, q2, q3, q4, q5, q6, q7, q8, q9, q10, q11, q12, q13, q14, q15, q16, q17, hO, hL, f18⟩ := hI
        exact lc hn q11
    · simp only [List.getElem?_toArray, List.getElem?_cons_zero, List.getElem?_cons_succ, Option.some.injEq] at ho
      subst ho
      rcases hI with hI | hI
      · obtain ⟨s25, s26, s27, s28, s29, s30, s31, s32, s33, s34, s35, s36, s37, s38, s39, s40, s41, s42, rfl, q17, q18, g2_1, g4_2, g4_3, g5_4, g6_5, g8_7, g10_8, g10_9, g11_10, g12_11, g13_6, g13_12, g15_13, g15_14, g16_15, hB, f0, f1, f2, f3, f4, f5, f6, f7, f8, f9, f10, f11, f12, f13, f14, f15, f16⟩ := hI
        obtain rfl := f11 (hd ⟨11, .data⟩ (by simp) rfl)
        have hc := (hB.cell (p := ⟨(ad.add (i * 2)).block, (ad.add (i * 2)).off + 1, none⟩) had).trans hd1
        refine wpOp_step rfl (fun K hK => ?_)
        go_simp
        refine hK _ _ (.inl ?_)
        unfold NpA
        simp only [flag_ne (i := 12) 0 (by decide), flag_ne (i := 12) 1 (by decide), flag_ne (i := 12) 2 (by decide), flag_ne (i := 12) 3 (by decide), flag_ne (i := 12) 4 (by decide), flag_ne (i := 12) 5 (by decide), flag_ne (i := 12) 6 (by decide), flag_ne (i := 12) 7 (by decide), flag_ne (i := 12) 8 (by decide), flag_ne (i := 12) 9 (by decide), flag_ne (i := 12) 10 (by decide), flag_ne (i := 12) 11 (by decide), flag_ne (i := 12) 13 (by decide), flag_ne (i := 12) 14 (by decide), flag_ne (i := 12) 15 (by decide), flag_ne (i := 12) 16 (by decide), flag_ne (i := 12) 17 (by decide), flag_ne (i := 12) 18 (by decide), lself hn]
        exact ⟨_, _, _, _, _, _, _, _, _, _, _, _, _, _, _, _, _, _, rfl, q17, q18, fun h => g2_1 h, fun h => g4_2 h, fun h => g4_3 h, fun h => g5_4 h, fun h => g6_5 h, fun h => g8_7 h, fun h => g10_8 h, fun h => g10_9 h, fun h => g11_10 h, fun _ => (hd ⟨11, .data⟩ (by simp) rfl), fun h => g13_6 h, (by first | exact fun _ => rfl | exact fun _ => trivial | trivial), fun h => g15_13 h, fun h => g15_14 h, fun h => g16_15 h, hB, fun h => f0 h, fun h => f1 h, fun h => f2 h, fun h => f3 h, fun h => f4 h, fun h => f5 h, fun h => f6 h, fun h => f7 h, fun h => f8 h, fun h => f9 h, fun h => f10 h, fun h => f11 h, fun _ => rfl, fun h => f13 h, fun h => f14 h, fun h => f15 h, fun h => f16 h⟩
      · obtain ⟨s25, s26, s27, s28, s29, s30, s31, s32, s33, s34, s35, s36, s37, s38, s39, s40, s41, s0, Ab, cb, rfl, q0, q1, q2, q3, q4, q5, q6, q7, q8, q9, q10, q11, q12, q13, q14, q15, q16, q17, hO, hL, f18⟩ := hI
        exact lc hn q12
    · simp only [List.getElem?_toArray, List.getElem?_cons_zero, List.getElem?_cons_succ, Option.some.injEq] at ho
      subst ho
      rcases hI with hI | hI
      · obtain ⟨s25, s26, s27, s28, s29, s30, s31, s32, s33, s34, s35, s36, s37, s38, s39, s40, s41, s42, rfl, q17, q18, g2_1, g4_2, g4_3, g5_4, g6_5, g8_7, g10_8, g10_9, g11_10, g12_11, g13_6, g13_12, g15_13, g15_14, g16_15, hB, f0, f1, f2, f3, f4, f5, f6, f7, f8, f9, f10, f11, f12, f13, f14, f15, f16⟩ := hI
        obtain rfl := f6 (hd ⟨6, .data⟩ (by simp) rfl)
        obtain rfl := f12 (hd ⟨12, .data⟩ (by simp) rfl)
        refine wpOp_step rfl (fun K hK => ?_)
        go_simp
        refine hK _ _ (.inl ?_)
        unfold NpA
        simp only [flag_ne (i := 13) 0 (by decide), flag_ne (i := 13) 1 (by decide), flag_ne (i := 13) 2 (by decide), flag_ne (i := 13) 3 (by decide), flag_ne (i := 13) 4 (by decide), flag_ne (i := 13) 5 (by decide), flag_ne (i := 13) 6 (by decide), flag_ne (i := 13) 7 (by decide), flag_ne (i := 13) 8 (by decide), flag_ne (i := 13) 9 (by decide), flag_ne (i := 13) 10 (by decide), flag_ne (i := 13) 11 (by decide), flag_ne (i := 13) 12 (by decide), flag_ne (i := 13) 14 (by decide), flag_ne (i := 13) 15 (by decide), flag_ne (i := 13) 16 (by decide), flag_ne (i := 13) 17 (by decide), flag_ne (i := 13) 18 (by decide), lself hn]
        exact ⟨_, _, _, _, _, _, _, _, _, _, _, _, _, _, _, _, _, _, rfl, q17, q18, fun h => g2_1 h, fun h => g4_2 h, fun h => g4_3 h, fun h => g5_4 h, fun h => g6_5 h, fun h => g8_7 h, fun h => g10_8 h, fun h => g10_9 h, fun h => g11_10 h, fun h => g12_11 h, fun _ => (hd ⟨6, .data⟩ (by simp) rfl), fun _ => (hd ⟨12, .data⟩ (by simp) rfl), (by first | exact fun _ => rfl | exact fun _ => trivial | trivial), fun h => g15_14 h, fun h => g16_15 h, hB, fun h => f0 h, fun h => f1 h, fun h => f2 h, fun h => f3 h, fun h => f4 h, fun h => f5 h, fun h => f6 h, fun h => f7 h, fun h => f8 h, fun h => f9 h, fun h => f10 h, fun h => f11 h, fun h => f12 h, fun _ => rfl, fun h => f14 h, fun h => f15 h, fun h => f16 h⟩
      · obtain ⟨s25, s26, s27, s28, s29, s30, s31, s32, s33, s34, s35, s36, s37, s38, s39, s40, s41, s0, Ab, cb, rfl, q0, q1, q2, q3, q4, q5, q6, q7, q8, q9, q10, q11, q12, q13, q14, q15, q16, q17, hO, hL, f18⟩ := hI
        exact lc hn q13
    · simp only [List.getElem?_toArray, List.getElem?_cons_zero, List.getElem?_cons_succ, Option.some.injEq] at ho
      subst ho
      rcases hI with hI | hI
      · obtain ⟨s25, s26, s27, s28, s29, s30, s31, s32, s33, s34, s35, s36, s37, s38, s39, s40, s41, s42, rfl, q17, q18, g2_1, g4_2, g4_3, g5_4, g6_5, g8_7, g10_8, g10_9, g11_10, g12_11, g13_6, g13_12, g15_13, g15_14, g16_15, hB, f0, f1, f2, f3, f4, f5, f6, f7, f8, f9, f10, f11, f12, f13, f14, f15, f16⟩ := hI
        refine wpOp_step rfl (fun K hK => ?_)
        go_simp
        refine hK _ _ (.inl ?_)
        unfold NpA
        simp only [flag_ne (i := 14) 0 (by decide), flag_ne (i := 14) 1 (by decide), flag_ne (i := 14) 2 (by decide), flag_ne (i := 14) 3 (by decide), flag_ne (i := 14) 4 (by decide), flag_ne (i := 14) 5 (by decide), flag_ne (i := 14) 6 (by decide), flag_ne (i := 14) 7 (by decide), flag_ne (i := 14) 8 (by decide), flag_ne (i := 14) 9 (by decide), flag_ne (i := 14) 10 (by decide), flag_ne (i := 14) 11 (by decide), flag_ne (i := 14) 12 (by decide), flag_ne (i := 14) 13 (by decide), flag_ne (i := 14) 15 (by decide), flag_ne (i := 14) 16 (by decide), flag_ne (i := 14) 17 (by decide), flag_ne (i := 14) 18 (by decide), lself hn]
        exact ⟨_, _, _, _, _, _, _, _, _, _, _, _, _, _, _, _, _, _, rfl, q17, q18, fun h => g2_1 h, fun h => g4_2 h, fun h => g4_3 h, fun h => g5_4 h, fun h => g6_5 h, fun h => g8_7 h, fun h => g10_8 h, fun h => g10_9 h, fun h => g11_10 h, fun h => g12_11 h, fun h => g13_6 h, fun h => g13_12 h, fun h => g15_13 h, (by first | exact fun _ => rfl | exact fun _ => trivial | trivial), fun h => g16_15 h, hB, fun h => f0 h, fun h => f1 h, fun h => f2 h, fun h => f3 h, fun h => f4 h, fun h => f5 h, fun h => f6 h, fun h => f7 h, fun h => f8 h, fun h => f9 h, fun h => f10 h, fun h => f11 h, fun h => f12 h, fun h => f13 h, fun _ => rfl, fun h => f15 h, fun h => f16 h⟩
      · obtain ⟨s25, s26, s27, s28, s29, s30, s31, s32, s33, s34, s35, s36, s37, s38, s39, s40, s41, s0, Ab, cb, rfl, q0, q1, q2, q3, q4, q5, q6, q7, q8, q9, q10, q11, q12, q13, q14, q15, q16, q17, hO, hL, f18⟩ := hI
        exact lc hn q14
    · simp only [List.getElem?_toArray, List.getElem?_cons_zero, List.getElem?_cons_succ, Option.some.injEq] at ho
      subst ho
      rcases hI with hI | hI
      · obtain ⟨s25, s26, s27, s28, s29, s30, s31, s32, s33, s34, s35, s36, s37, s38, s39, s40, s41, s42, rfl, q17, q18, g2_1, g4_2, g4_3, g5_4, g6_5, g8_7, g10_8, g10_9, g11_10, g12_11, g13_6, g13_12, g15_13, g15_14, g16_15, hB, f0, f1, f2, f3, f4, f5, f6, f7, f8, f9, f10, f11, f12, f13, f14, f15, f16⟩ := hI
        obtain rfl := f13 (hd ⟨13, .data⟩ (by simp) rfl)
        obtain rfl := f14 (hd ⟨14, .data⟩ (by simp) rfl)
        refine wpOp_step rfl (fun K hK => ?_)
        go_simp
        refine hK _ _ (.inl ?_)
        unfold NpA
        simp only [flag_ne (i := 15) 0 (by decide), flag_ne (i := 15) 1 (by decide), flag_ne (i := 15) 2 (by decide), flag_ne (i := 15) 3 (by decide), flag_ne (i := 15) 4 (by decide), flag_ne (i := 15) 5 (by decide), flag_ne (i := 15) 6 (by decide), flag_ne (i := 15) 7 (by decide), flag_ne (i := 15) 8 (by decide), flag_ne (i := 15) 9 (by decide), flag_ne (i := 15) 10 (by decide), flag_ne (i := 15) 11 (by decide), flag_ne (i := 15) 12 (by decide), flag_ne (i := 15) 13 (by decide), flag_ne (i := 15) 14 (by decide), flag_ne (i := 15) 16 (by decide), flag_ne (i := 15) 17 (by decide), flag_ne (i := 15) 18 (by decide), lself hn]
        exact ⟨_, _, _, _, _, _, _, _, _, _, _, _, _, _, _, _, _, _, rfl, q17, q18, fun h => g2_1 h, fun h => g4_2 h, fun h => g4_3 h, fun h => g5_4 h, fun h => g6_5 h, fun h => g8_7 h, fun h => g10_8 h, fun h => g10_9 h, fun h => g11_10 h, fun h => g12_11 h, fun h => g13_6 h, fun h => g13_12 h, fun _ => (hd ⟨13, .data⟩ (by simp) rfl), fun _ => (hd ⟨14, .data⟩ (by simp) rfl), (by first | exact fun _ => rfl | exact fun _ => trivial | trivial), hB, fun h => f0 h, fun h => f1 h, fun h => f2 h, fun h => f3 h, fun h => f4 h, fun h => f5 h, fun h => f6 h, fun h => f7 h, fun h => f8 h, fun h => f9 h, fun h => f10 h, fun h => f11 h, fun h => f12 h, fun h => f13 h, fun h => f14 h, fun _ => rfl, fun h => f16 h⟩
      · obtain ⟨s25, s26, s27, s28, s29, s30, s31, s32, s33, s34, s35, s36, s37, s38, s39, s40, s41, s0, Ab, cb, rfl, q0, q1, q2, q3, q4, q5, q6, q7, q8, q9, q10, q11, q12, q13, q14, q15, q16, q17, hO, hL, f18⟩ := hI
        exact lc hn q15
    · simp only [List.getElem?_toArray, List.getElem?_cons_zero, List.getElem?_cons_succ, Option.some.injEq] at ho
      subst ho
      rcases hI with hI | hI
      · obtain ⟨s25, s26, s27, s28, s29, s30, s31, s32, s33, s34, s35, s36, s37, s38, s39, s40, s41, s42, rfl, q17, q18, g2_1, g4_2, g4_3, g5_4, g6_5, g8_7, g10_8, g10_9, g11_10, g12_11, g13_6, g13_12, g15_13, g15_14, g16_15, hB, f0, f1, f2, f3, f4, f5, f6, f7, f8, f9, f10, f11, f12, f13, f14, f15, f16⟩ := hI
        obtain rfl := f15 (hd ⟨15, .data⟩ (by simp) rfl)
        refine wpOp_step rfl (fun K hK => ?_)
        go_simp
        refine hK _ _ (.inl ?_)
        unfold NpA
        simp only [flag_ne (i := 16) 0 (by decide), flag_ne (i := 16) 1 (by decide), flag_ne (i := 16) 2 (by decide), flag_ne (i := 16) 3 (by decide), flag_ne (i := 16) 4 (by decide), flag_ne (i := 16) 5 (by decide), flag_ne (i := 16) 6 (by decide), flag_ne (i := 16) 7 (by decide), flag_ne (i := 16) 8 (by decide), flag_ne (i := 16) 9 (by decide), flag_ne (i := 16) 10 (by decide), flag_ne (i := 16) 11 (by decide), flag_ne (i := 16) 12 (by decide), flag_ne (i := 16) 13 (by decide), flag_ne (i := 16) 14 (by decide), flag_ne (i := 16) 15 (by decide), flag_ne (i := 16) 17 (by decide), flag_ne (i := 16) 18 (by decide), lself hn]
        exact ⟨_, _, _, _, _, _, _, _, _, _, _, _, _, _, _, _, _, _, rfl, q17, q18, fun h => g2_1 h, fun h => g4_2 h, fun h => g4_3 h, fun h => g5_4 h, fun h => g6_5 h, fun h => g8_7 h, fun h => g10_8 h, fun h => g10_9 h, fun h => g11_10 h, fun h => g12_11 h, fun h => g13_6 h, fun h => g13_12 h, fun h => g15_13 h, fun h => g15_14 h, fun _ => (hd ⟨15, .data⟩ (by simp) rfl), ba hB, fun h => f0 h, fun h => f1 h, fun h => f2 h, fun h => f3 h, fun h => f4 h, fun h => f5 h, fun h => f6 h, fun h => f7 h, fun h => f8 h, fun h => f9 h, fun h => f10 h, fun h => f11 h, fun h => f12 h, fun h => f13 h, fun h => f14 h, fun h => f15 h, fun _ => ⟨_, _, rfl, rfl, fun _ => ⟨_, rfl, (by simp), six_new _ _ _ _ _ _ _ _⟩⟩⟩
      · obtain ⟨s25, s26, s27, s28, s29, s30, s31, s32, s33, s34, s35, s36, s37, s38, s39, s40, s41, s0, Ab, cb, rfl, q0, q1, q2, q3, q4, q5, q6, q7, q8, q9, q10, q11, q12, q13, q14, q15, q16, q17, hO, hL, f18⟩ := hI
        exact lc hn q16
    · simp only [List.getElem?_toArray, List.getElem?_cons_zero, List.getElem?_cons_succ, Option.some.injEq] at ho
      subst ho
      rcases hI with hI | hI
      · obtain ⟨s25, s26, s27, s28, s29, s30, s31, s32, s33, s34, s35, s36, s37, s38, s39, s40, s41, s42, rfl, q17, q18, g2_1, g4_2, g4_3, g5_4, g6_5, g8_7, g10_8, g10_9, g11_10, g12_11, g13_6, g13_12, g15_13, g15_14, g16_15, hB, f0, f1, f2, f3, f4, f5, f6, f7, f8, f9, f10, f11, f12, f13, f14, f15, f16⟩ := hI
        have b0 := (hd ⟨0, .data⟩ (by simp) rfl)
        have b16 := (hd ⟨16, .data⟩ (by simp) rfl)
        have b15 := g16_15 b16
        have b13 := g15_13 b15
        have b14 := g15_14 b15
        have b6 := g13_6 b13
        have b12 := g13_12 b13
        have b5 := g6_5 b6
        have b11 := g12_11 b12
        have b4 := g5_4 b5
        have b10 := g11_10 b11
        have b2 := g4_2 b4
        have b3 := g4_3 b4
        have b8 := g10_8 b10
        have b9 := g10_9 b10
        have b1 := g2_1 b2
        have b7 := g8_7 b8
        obtain rfl := f0 b0
        obtain ⟨Az, cz, rfl, hz⟩ := f16 b16
        obtain ⟨i6, hi6', hz60, hz61, hz62⟩ := info_parts node_info
        refine wpOp_step rfl (fun K hK => ?_)
        refine wp_append_any _ _ _ _ rfl base 106 i6 _ 6 96 Tryd.underlying33 hi6' hz60 hz61 hz62 rfl (by omega) (.slice A n c) n (rowN M) rfl (own_below hO hB) w9.heap.size Az 1 cz _ rfl (RdP.reads hz (fun b hb => hb)) (by intro u hu; simp at hu; rcases hu with rfl | rfl | rfl | rfl | rfl | rfl <;> rfl) (by simp only [maxLen]; omega) (by omega) (Nat.le_trans hbase hB.size) ?_
        intro v5 w5 hown5 hg5 hat5
        rw [show rowN M ++ [.int .i64 3, .string (ba' nm), .string (ba' vl), .slice none 0 0, .slice none 0 0, .int .i64 (own : Int)] = rowN (M ++ [(attrT (nm, vl), own)]) from (rowN_snoc M (attrT (nm, vl), own)).symm] at hown5
        obtain ⟨Ab, cb, rfl⟩ := own_slice hown5
        have hL5 : Along A w Ab w5 := (Along.of_below hB).trans (Along.of_grown hg5 hat5)
        refine hK _ _ (.inr ?_)
        unfold NpB
        simp only [flag_ne (i := 17) 0 (by decide), flag_ne (i := 17) 1 (by decide), flag_ne (i := 17) 2 (by decide), flag_ne (i := 17) 3 (by decide), flag_ne (i := 17) 4 (by decide), flag_ne (i := 17) 5 (by decide), flag_ne (i := 17) 6 (by decide), flag_ne (i := 17) 7 (by decide), flag_ne (i := 17) 8 (by decide), flag_ne (i := 17) 9 (by decide), flag_ne (i := 17) 10 (by decide), flag_ne (i := 17) 11 (by decide), flag_ne (i := 17) 12 (by decide), flag_ne (i := 17) 13 (by decide), flag_ne (i := 17) 14 (by decide), flag_ne (i := 17) 15 (by decide), flag_ne (i := 17) 16 (by decide), flag_ne (i := 17) 18 (by decide), lself hn]
        exact ⟨_, _, _, _, _, _, _, _, _, _, _, _, _, _, _, _, _, _, Ab, cb, rfl, b0, b1, b2, b3, b4, b5, b6, b7, b8, b9, b10, b11, b12, b13, b14, b15, b16, (by first | rfl | trivial), hown5, hL5, fun h => absurd h (by simp [q18])⟩
      · obtain ⟨s25, s26, s27, s28, s29, s30, s31, s32, s33, s34, s35, s36, s37, s38, s39, s40, s41, s0, Ab, cb, rfl, q0, q1, q2, q3, q4, q5, q6, q7, q8, q9, q10, q11, q12, q13, q14, q15, q16, q17, hO, hL, f18⟩ := hI
        exact lc hn q17
    · simp only [List.getElem?_toArray, List.getElem?_cons_zero, List.getElem?_cons_succ, Option.some.injEq] at ho
      subst ho
      rcases hI with hI | hI
      · obtain ⟨s25, s26, s27, s28, s29, s30, s31, s32, s33, s34, s35, s36, s37, s38, s39, s40, s41, s42, rfl, q17, q18, g2_1, g4_2, g4_3, g5_4, g6_5, g8_7, g10_8, g10_9, g11_10, g12_11, g13_6, g13_12, g15_13, g15_14, g16_15, hB, f0, f1, f2, f3, f4, f5, f6, f7, f8, f9, f10, f11, f12, f13, f14, f15, f16⟩ := hI
        have := hd ⟨17, .data⟩ (by simp) rfl
        simp [q17] at this
      · obtain ⟨s25, s26, s27, s28, s29, s30, s31, s32, s33, s34, s35, s36, s37, s38, s39, s40, s41, s0, Ab, cb, rfl, q0, q1, q2, q3, q4, q5, q6, q7, q8, q9, q10, q11, q12, q13, q14, q15, q16, q17, hO, hL, f18⟩ := hI
        refine wpOp_step rfl (fun K hK => ?_)
        go_simp
        refine hK _ _ (.inr ?_)
        unfold NpB
        simp only [flag_ne (i := 18) 0 (by decide), flag_ne (i := 18) 1 (by decide), flag_ne (i := 18) 2 (by decide), flag_ne (i := 18) 3 (by decide), flag_ne (i := 18) 4 (by decide), flag_ne (i := 18) 5 (by decide), flag_ne (i := 18) 6 (by decide), flag_ne (i := 18) 7 (by decide), flag_ne (i := 18) 8 (by decide), flag_ne (i := 18) 9 (by decide), flag_ne (i := 18) 10 (by decide), flag_ne (i := 18) 11 (by decide), flag_ne (i := 18) 12 (by decide), flag_ne (i := 18) 13 (by decide), flag_ne (i := 18) 14 (by decide), flag_ne (i := 18) 15 (by decide), flag_ne (i := 18) 16 (by decide), flag_ne (i := 18) 17 (by decide), lself hn]
        exact ⟨_, _, _, _, _, _, _, _, _, _, _, _, _, _, _, _, _, _, Ab, cb, rfl, q0, q1, q2, q3, q4, q5, q6, q7, q8, q9, q10, q11, q12, q13, q14, q15, q16, q17, hO, hL, fun _ => rfl⟩
  · intro l Pa W hall hI
    rcases hI with hI | hI
    · obtain ⟨s25, s26, s27, s28, s29, s30, s31, s32, s33, s34, s35, s36, s37, s38, s39, s40, s41, s42, rfl, q17, q18, g2_1, g4_2, g4_3, g5_4, g6_5, g8_7, g10_8, g10_9, g11_10, g12_11, g13_6, g13_12, g15_13, g15_14, g16_15, hB, f0, f1, f2, f3, f4, f5, f6, f7, f8, f9, f10, f11, f12, f13, f14, f15, f16⟩ := hI
      have := hall 17 (by decide)
      simp [q17] at this
    · obtain ⟨s25, s26, s27, s28, s29, s30, s31, s32, s33, s34, s35, s36, s37, s38, s39, s40, s41, s0, Ab, cb, rfl, q0, q1, q2, q3, q4, q5, q6, q7, q8, q9, q10, q11, q12, q13, q14, q15, q16, q17, hO, hL, f18⟩ := hI
      obtain rfl := f18 (hall 18 (by decide))
      exact hQ _ _ _ _ _ _ _ _ _ _ _ _ _ _ _ _ _ _ _ _ hO hL
end Go.Proofs.YtjpopmgnhgancaaDoor
