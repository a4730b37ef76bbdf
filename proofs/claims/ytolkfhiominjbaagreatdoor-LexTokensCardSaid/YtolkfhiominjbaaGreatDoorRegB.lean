/- The statement LexWords asks of each word: three ways more; of each token. No condition beyond what the theorems state. -/
import Derived.Test.YtolkfhiominjbaaGreatDoorRegA
namespace Go.Proofs.YtolkfhiominjbaaGreatDoor
open Go.RowKit Go.Lib
set_option maxRecDepth 100000
set_option maxHeartbeats 16000000

def W4I (w0 : World) (ad : Addr) (n c i : Nat) (x : List UInt8) (_L : Option Addr) (_m lc g a _b : Nat) (_e0 : Int) (c1 c2 c3 c7 c8 c9 c10 c11 c12 c13 c14 c15 c16 c17 c18 c19 c20 c21 c22 c23 c24 c25 c26 c27 c28 c29 c30 c31 c66 c67 c68 c69 c70 c71 c72 c73 c74 c75 c76 c77 c78 c79 c80 c81 c82 c83 c84 c85 c86 c87 c88 c89 c90 c91 c92 c93 c94 c95 c96 c97 c98 c99 c100 c101 c102 c103 c104 c105 c106 c107 c108 c109 : Value) (listed : Array Bool) (A : Act) (w : World) : Prop := ∃ (s32 s33 s34 s35 s36 s37 s38 s39 s40 s41 s42 s43 s44 s45 s46 s47 s48 s49 s50 s51 s52 s53 s54 s55 s56 s57 s58 s59 s60 s61 s62 s63 s64 s65 : Value), A = { tmps := #[.slice (some ad) n c, c1, c2, c3, .int .i64 (i : Nat), .slice (some ⟨g, 0, none⟩) 1 lc, .int .i64 0, c7, c8, c9, c10, c11, c12, c13, c14, c15, c16, c17, c18, c19, c20, c21, c22, c23, c24, c25, c26, c27, c28, c29, c30, c31, s32, s33, s34, s35, s36, s37, s38, s39, s40, s41, s42, s43, s44, s45, s46, s47, s48, s49, s50, s51, s52, s53, s54, s55, s56, s57, s58, s59, s60, s61, s62, s63, s64, s65, c66, c67, c68, c69, c70, c71, c72, c73, c74, c75, c76, c77, c78, c79, c80, c81, c82, c83, c84, c85, c86, c87, c88, c89, c90, c91, c92, c93, c94, c95, c96, c97, c98, c99, c100, c101, c102, c103, c104, c105, c106, c107, c108, c109], defers := [] } ∧
  (listed.getD 0 false = true → s32 = .slice (some ad) n c) ∧
  (listed.getD 1 false = true → s33 = .int .i64 (i : Nat)) ∧
  (listed.getD 2 false = true → s34 = .pointer (some (ad.add i))) ∧
  (listed.getD 3 false = true → s35 = .string (ba' x)) ∧
  (listed.getD 4 false = true → s36 = .int .i64 (x.length : Nat)) ∧
  (listed.getD 5 false = true → s37 = .bool false) ∧
  (listed.getD 6 false = true → s38 = .bool false) ∧
  (listed.getD 7 false = true → s39 = .int .i64 0) ∧
  (listed.getD 8 false = true → s40 = .bool false) ∧
  (listed.getD 9 false = true → s41 = .bool false) ∧
  (listed.getD 10 false = true → s42 = .bool false) ∧
  (listed.getD 11 false = true → s43 = .slice (some ⟨g, 0, none⟩) 1 lc) ∧
  (listed.getD 12 false = true → s44 = .int .i64 1) ∧
  (listed.getD 13 false = true → s45 = .bool false) ∧
  (listed.getD 14 false = true → s46 = .bool false) ∧
  (listed.getD 15 false = true → s47 = .bool false) ∧
  (listed.getD 16 false = true → s48 = .slice (some ⟨g, 0, none⟩) 1 lc) ∧
  (listed.getD 17 false = true → s49 = .pointer (some ⟨g, 0, none⟩)) ∧
  (listed.getD 18 false = true → s50 = .pointer (some ⟨g, 2, none⟩)) ∧
  (listed.getD 19 false = true → s51 = .int .i64 (a : Nat)) ∧
  (listed.getD 20 false = true → s52 = .bool true) ∧
  (listed.getD 21 false = true → s53 = .bool true) ∧
  (listed.getD 22 false = true → s54 = .bool true) ∧
  (listed.getD 23 false = true → s55 = undef) ∧
  (listed.getD 24 false = true → s56 = undef) ∧
  (listed.getD 25 false = true → s57 = undef) ∧
  (listed.getD 26 false = true → s58 = undef) ∧
  (listed.getD 27 false = true → s59 = undef) ∧
  (listed.getD 28 false = true → s60 = undef) ∧
  (listed.getD 29 false = true → s61 = undef) ∧
  (listed.getD 30 false = true → s62 = undef) ∧
  (listed.getD 31 false = true → s63 = undef) ∧
  (listed.getD 32 false = true → s64 = undef) ∧
  (listed.getD 33 false = true → s65 = .bool true) ∧
  Below w0.heap.size w0 w ∧
  w.cell? (ad.add i) = some (.string (ba' x)) ∧
  w.cell? ⟨g, 2, none⟩ = some (.int .i64 (a : Nat))
set_option maxRecDepth 100000 in
set_option maxHeartbeats 16000000 in
theorem W4_region (ad : Addr) (n c i : Nat) (x : List UInt8) (L : Option Addr) (m lc g a b : Nat) (e0 : Int) (x32 x33 x34 x35 x36 x37 x38 x39 x40 x41 x42 x43 x44 x45 x46 x47 x48 x49 x50 x51 x52 x53 x54 x55 x56 x57 x58 x59 x60 x61 x62 x63 x64 x65 : Value) (c1 c2 c3 c7 c8 c9 c10 c11 c12 c13 c14 c15 c16 c17 c18 c19 c20 c21 c22 c23 c24 c25 c26 c27 c28 c29 c30 c31 c66 c67 c68 c69 c70 c71 c72 c73 c74 c75 c76 c77 c78 c79 c80 c81 c82 c83 c84 c85 c86 c87 c88 c89 c90 c91 c92 c93 c94 c95 c96 c97 c98 c99 c100 c101 c102 c103 c104 c105 c106 c107 c108 c109 : Value) (w0 W : World) (Q : Exit → Act → World → Prop) (hb0 : Below w0.heap.size w0 W) (C0 : W.cell? (ad.add i) = some (.string (ba' x))) (C1 : W.cell? ⟨g, 2, none⟩ = some (.int .i64 (a : Nat))) (hin : i < n) (hxs : (ba' x).size = x.length) (_hlen : ¬ 100 < x.length) (q0 : decide ((100 : Int) < (x.length : Int)) = false) (ha : (((a : Nat) : Int) != 0) = true) (_ha2 : decide (¬ ((a : Nat) : Int) = 0) = true) (_ha3 : decide (¬ a = 0) = true)
    (hQ : ∀ (w : World) , (True) → Below w0.heap.size w0 w → Q .normal { tmps := #[.slice (some ad) n c, c1, c2, c3, .int .i64 (i : Nat), .slice (some ⟨g, 0, none⟩) 1 lc, .int .i64 0, c7, c8, c9, c10, c11, c12, c13, c14, c15, c16, c17, c18, c19, c20, c21, c22, c23, c24, c25, c26, c27, c28, c29, c30, c31, .slice (some ad) n c, .int .i64 (i : Nat), .pointer (some (ad.add i)), .string (ba' x), .int .i64 (x.length : Nat), .bool false, .bool false, .int .i64 0, .bool false, .bool false, .bool false, .slice (some ⟨g, 0, none⟩) 1 lc, .int .i64 1, .bool false, .bool false, .bool false, .slice (some ⟨g, 0, none⟩) 1 lc, .pointer (some ⟨g, 0, none⟩), .pointer (some ⟨g, 2, none⟩), .int .i64 (a : Nat), .bool true, .bool true, .bool true, undef, undef, undef, undef, undef, undef, undef, undef, undef, undef, .bool true, c66, c67, c68, c69, c70, c71, c72, c73, c74, c75, c76, c77, c78, c79, c80, c81, c82, c83, c84, c85, c86, c87, c88, c89, c90, c91, c92, c93, c94, c95, c96, c97, c98, c99, c100, c101, c102, c103, c104, c105, c106, c107, c108, c109], defers := [] } w) :
    Code.wp Tryz.prog ((Tryz.f5.body.bind (regionOf 8)).getD .skip) Q { tmps := #[.slice (some ad) n c, c1, c2, c3, .int .i64 (i : Nat), .slice (some ⟨g, 0, none⟩) 1 lc, .int .i64 0, c7, c8, c9, c10, c11, c12, c13, c14, c15, c16, c17, c18, c19, c20, c21, c22, c23, c24, c25, c26, c27, c28, c29, c30, c31, x32, x33, x34, x35, x36, x37, x38, x39, x40, x41, x42, x43, x44, x45, x46, x47, x48, x49, x50, x51, x52, x53, x54, x55, x56, x57, x58, x59, x60, x61, x62, x63, x64, x65, c66, c67, c68, c69, c70, c71, c72, c73, c74, c75, c76, c77, c78, c79, c80, c81, c82, c83, c84, c85, c86, c87, c88, c89, c90, c91, c92, c93, c94, c95, c96, c97, c98, c99, c100, c101, c102, c103, c104, c105, c106, c107, c108, c109], defers := [] } W := by
  conv => arg 2; whnf
  refine wp_region_inv (by kernel_rfl) (by kernel_rfl) (W4I w0 ad n c i x L m lc g a b e0 c1 c2 c3 c7 c8 c9 c10 c11 c12 c13 c14 c15 c16 c17 c18 c19 c20 c21 c22 c23 c24 c25 c26 c27 c28 c29 c30 c31 c66 c67 c68 c69 c70 c71 c72 c73 c74 c75 c76 c77 c78 c79 c80 c81 c82 c83 c84 c85 c86 c87 c88 c89 c90 c91 c92 c93 c94 c95 c96 c97 c98 c99 c100 c101 c102 c103 c104 c105 c106 c107 c108 c109) ?_ ?_ ?_
  · exact ⟨_, _, _, _, _, _, _, _, _, _, _, _, _, _, _, _, _, _, _, _, _, _, _, _, _, _, _, _, _, _, _, _, _, _, rfl, fun h => absurd h l0, fun h => absurd h l0, fun h => absurd h l0, fun h => absurd h l0, fun h => absurd h l0, fun h => absurd h l0, fun h => absurd h l0, fun h => absurd h l0, fun h => absurd h l0, fun h => absurd h l0, fun h => absurd h l0, fun h => absurd h l0, fun h => absurd h l0, fun h => absurd h l0, fun h => absurd h l0, fun h => absurd h l0, fun h => absurd h l0, fun h => absurd h l0, fun h => absurd h l0, fun h => absurd h l0, fun h => absurd h l0, fun h => absurd h l0, fun h => absurd h l0, fun h => absurd h l0, fun h => absurd h l0, fun h => absurd h l0, fun h => absurd h l0, fun h => absurd h l0, fun h => absurd h l0, fun h => absurd h l0, fun h => absurd h l0, fun h => absurd h l0, fun h => absurd h l0, fun h => absurd h l0, bdr hb0, C0, C1⟩
  · intro i o listed A w hi ho hd hn hI
    unfold W4I at hI
    obtain ⟨s32, hI⟩ := hI
    obtain ⟨s33, hI⟩ := hI
    obtain ⟨s34, hI⟩ := hI
    obtain ⟨s35, hI⟩ := hI
    obtain ⟨s36, hI⟩ := hI
    obtain ⟨s37, hI⟩ := hI
    obtain ⟨s38, hI⟩ := hI
    obtain ⟨s39, hI⟩ := hI
    obtain ⟨s40, hI⟩ := hI
    obtain ⟨s41, hI⟩ := hI
    obtain ⟨s42, hI⟩ := hI
    obtain ⟨s43, hI⟩ := hI
    obtain ⟨s44, hI⟩ := hI
    obtain ⟨s45, hI⟩ := hI
    obtain ⟨s46, hI⟩ := hI
    obtain ⟨s47, hI⟩ := hI
    obtain ⟨s48, hI⟩ := hI
    obtain ⟨s49, hI⟩ := hI
    obtain ⟨s50, hI⟩ := hI
    obtain ⟨s51, hI⟩ := hI
    obtain ⟨s52, hI⟩ := hI
    obtain ⟨s53, hI⟩ := hI
    obtain ⟨s54, hI⟩ := hI
    obtain ⟨s55, hI⟩ := hI
    obtain ⟨s56, hI⟩ := hI
    obtain ⟨s57, hI⟩ := hI
    obtain ⟨s58, hI⟩ := hI
    obtain ⟨s59, hI⟩ := hI
    obtain ⟨s60, hI⟩ := hI
    obtain ⟨s61, hI⟩ := hI
    obtain ⟨s62, hI⟩ := hI
    obtain ⟨s63, hI⟩ := hI
    obtain ⟨s64, hI⟩ := hI
    obtain ⟨s65, hI⟩ := hI
    obtain ⟨rfl, hI⟩ := hI
    obtain ⟨F0, hI⟩ := hI
    obtain ⟨F1, hI⟩ := hI
    obtain ⟨F2, hI⟩ := hI
    obtain ⟨F3, hI⟩ := hI
    obtain ⟨F4, hI⟩ := hI
    obtain ⟨F5, hI⟩ := hI
    obtain ⟨F6, hI⟩ := hI
    obtain ⟨F7, hI⟩ := hI
    obtain ⟨F8, hI⟩ := hI
    obtain ⟨F9, hI⟩ := hI
    obtain ⟨F10, hI⟩ := hI
    obtain ⟨F11, hI⟩ := hI
    obtain ⟨F12, hI⟩ := hI
    obtain ⟨F13, hI⟩ := hI
    obtain ⟨F14, hI⟩ := hI
    obtain ⟨F15, hI⟩ := hI
    obtain ⟨F16, hI⟩ := hI
    obtain ⟨F17, hI⟩ := hI
    obtain ⟨F18, hI⟩ := hI
    obtain ⟨F19, hI⟩ := hI
    obtain ⟨F20, hI⟩ := hI
    obtain ⟨F21, hI⟩ := hI
    obtain ⟨F22, hI⟩ := hI
    obtain ⟨F23, hI⟩ := hI
    obtain ⟨F24, hI⟩ := hI
    obtain ⟨F25, hI⟩ := hI
    obtain ⟨F26, hI⟩ := hI
    obtain ⟨F27, hI⟩ := hI
    obtain ⟨F28, hI⟩ := hI
    obtain ⟨F29, hI⟩ := hI
    obtain ⟨F30, hI⟩ := hI
    obtain ⟨F31, hI⟩ := hI
    obtain ⟨F32, hI⟩ := hI
    obtain ⟨F33, hI⟩ := hI
    obtain ⟨F34, hI⟩ := hI
    obtain ⟨F35, hI⟩ := hI
    have F36 := hI; clear hI
    have hi' : i < 34 := hi
    clear hi
    rcases (by omega : i = 0 ∨ i = 1 ∨ i = 2 ∨ i = 3 ∨ i = 4 ∨ i = 5 ∨ i = 6 ∨ i = 7 ∨ i = 8 ∨ i = 9 ∨ i = 10 ∨ i = 11 ∨ i = 12 ∨ i = 13 ∨ i = 14 ∨ i = 15 ∨ i = 16 ∨ i = 17 ∨ i = 18 ∨ i = 19 ∨ i = 20 ∨ i = 21 ∨ i = 22 ∨ i = 23 ∨ i = 24 ∨ i = 25 ∨ i = 26 ∨ i = 27 ∨ i = 28 ∨ i = 29 ∨ i = 30 ∨ i = 31 ∨ i = 32 ∨ i = 33) with rfl | rfl | rfl | rfl | rfl | rfl | rfl | rfl | rfl | rfl | rfl | rfl | rfl | rfl | rfl | rfl | rfl | rfl | rfl | rfl | rfl | rfl | rfl | rfl | rfl | rfl | rfl | rfl | rfl | rfl | rfl | rfl | rfl | rfl
    · simp only [List.getElem?_toArray, List.getElem?_cons_zero, Option.some.injEq] at ho
      subst ho
      refine wpOp_step rfl (fun K hK => ?_)
      go_simp
      refine hK _ _ ?_
      exact ⟨_, _, _, _, _, _, _, _, _, _, _, _, _, _, _, _, _, _, _, _, _, _, _, _, _, _, _, _, _, _, _, _, _, _, rfl, fun _ => rfl, lk F1, lk F2, lk F3, lk F4, lk F5, lk F6, lk F7, lk F8, lk F9, lk F10, lk F11, lk F12, lk F13, lk F14, lk F15, lk F16, lk F17, lk F18, lk F19, lk F20, lk F21, lk F22, lk F23, lk F24, lk F25, lk F26, lk F27, lk F28, lk F29, lk F30, lk F31, lk F32, lk F33, F34, F35, F36⟩
    · simp only [List.getElem?_toArray, List.getElem?_cons_zero, List.getElem?_cons_succ, Option.some.injEq] at ho
      subst ho
      refine wpOp_step rfl (fun K hK => ?_)
      go_simp
      refine hK _ _ ?_
      exact ⟨_, _, _, _, _, _, _, _, _, _, _, _, _, _, _, _, _, _, _, _, _, _, _, _, _, _, _, _, _, _, _, _, _, _, rfl, lk F0, fun _ => rfl, lk F2, lk F3, lk F4, lk F5, lk F6, lk F7, lk F8, lk F9, lk F10, lk F11, lk F12, lk F13, lk F14, lk F15, lk F16, lk F17, lk F18, lk F19, lk F20, lk F21, lk F22, lk F23, lk F24, lk F25, lk F26, lk F27, lk F28, lk F29, lk F30, lk F31, lk F32, lk F33, F34, F35, F36⟩
    · simp only [List.getElem?_toArray, List.getElem?_cons_zero, List.getElem?_cons_succ, Option.some.injEq] at ho
      subst ho
      obtain rfl := F0 (hd ⟨0, .data⟩ (by simp) rfl)
      obtain rfl := F1 (hd ⟨1, .data⟩ (by simp) rfl)
      refine wpOp_step rfl (fun K hK => ?_)
      go_simp
      refine hK _ _ ?_
      exact ⟨_, _, _, _, _, _, _, _, _, _, _, _, _, _, _, _, _, _, _, _, _, _, _, _, _, _, _, _, _, _, _, _, _, _, rfl, lk F0, lk F1, fun _ => rfl, lk F3, lk F4, lk F5, lk F6, lk F7, lk F8, lk F9, lk F10, lk F11, lk F12, lk F13, lk F14, lk F15, lk F16, lk F17, lk F18, lk F19, lk F20, lk F21, lk F22, lk F23, lk F24, lk F25, lk F26, lk F27, lk F28, lk F29, lk F30, lk F31, lk F32, lk F33, F34, F35, F36⟩
    · simp only [List.getElem?_toArray, List.getElem?_cons_zero, List.getElem?_cons_succ, Option.some.injEq] at ho
      subst ho
      obtain rfl := F2 (hd ⟨2, .data⟩ (by simp) rfl)
      have h0 := F35; have h1 := F36
      refine wpOp_step rfl (fun K hK => ?_)
      go_simp
      refine hK _ _ ?_
      exact ⟨_, _, _, _, _, _, _, _, _, _, _, _, _, _, _, _, _, _, _, _, _, _, _, _, _, _, _, _, _, _, _, _, _, _, rfl, lk F0, lk F1, lk F2, fun _ => rfl, lk F4, lk F5, lk F6, lk F7, lk F8, lk F9, lk F10, lk F11, lk F12, lk F13, lk F14, lk F15, lk F16, lk F17, lk F18, lk F19, lk F20, lk F21, lk F22, lk F23, lk F24, lk F25, lk F26, lk F27, lk F28, lk F29, lk F30, lk F31, lk F32, lk F33, F34, F35, F36⟩
    · simp only [List.getElem?_toArray, List.getElem?_cons_zero, List.getElem?_cons_succ, Option.some.injEq] at ho
      subst ho
      obtain rfl := F3 (hd ⟨3, .data⟩ (by simp) rfl)
      refine wpOp_step rfl (fun K hK => ?_)
      go_simp
      refine hK _ _ ?_
      exact ⟨_, _, _, _, _, _, _, _, _, _, _, _, _, _, _, _, _, _, _, _, _, _, _, _, _, _, _, _, _, _, _, _, _, _, rfl, lk F0, lk F1, lk F2, lk F3, fun _ => rfl, lk F5, lk F6, lk F7, lk F8, lk F9, lk F10, lk F11, lk F12, lk F13, lk F14, lk F15, lk F16, lk F17, lk F18, lk F19, lk F20, lk F21, lk F22, lk F23, lk F24, lk F25, lk F26, lk F27, lk F28, lk F29, lk F30, lk F31, lk F32, lk F33, F34, F35, F36⟩
    · simp only [List.getElem?_toArray, List.getElem?_cons_zero, List.getElem?_cons_succ, Option.some.injEq] at ho
      subst ho
      obtain rfl := F4 (hd ⟨4, .data⟩ (by simp) rfl)
      refine wpOp_step rfl (fun K hK => ?_)
      go_simp
      refine hK _ _ ?_
      exact ⟨_, _, _, _, _, _, _, _, _, _, _, _, _, _, _, _, _, _, _, _, _, _, _, _, _, _, _, _, _, _, _, _, _, _, rfl, lk F0, lk F1, lk F2, lk F3, lk F4, fun _ => rfl, lk F6, lk F7, lk F8, lk F9, lk F10, lk F11, lk F12, lk F13, lk F14, lk F15, lk F16, lk F17, lk F18, lk F19, lk F20, lk F21, lk F22, lk F23, lk F24, lk F25, lk F26, lk F27, lk F28, lk F29, lk F30, lk F31, lk F32, lk F33, F34, F35, F36⟩
    · simp only [List.getElem?_toArray, List.getElem?_cons_zero, List.getElem?_cons_succ, Option.some.injEq] at ho
      subst ho
      obtain rfl := F5 (hd ⟨5, .data⟩ (by simp) rfl)
      refine wpOp_step rfl (fun K hK => ?_)
      go_simp
      refine hK _ _ ?_
      exact ⟨_, _, _, _, _, _, _, _, _, _, _, _, _, _, _, _, _, _, _, _, _, _, _, _, _, _, _, _, _, _, _, _, _, _, rfl, lk F0, lk F1, lk F2, lk F3, lk F4, lk F5, fun _ => rfl, lk F7, lk F8, lk F9, lk F10, lk F11, lk F12, lk F13, lk F14, lk F15, lk F16, lk F17, lk F18, lk F19, lk F20, lk F21, lk F22, lk F23, lk F24, lk F25, lk F26, lk F27, lk F28, lk F29, lk F30, lk F31, lk F32, lk F33, F34, F35, F36⟩
    · simp only [List.getElem?_toArray, List.getElem?_cons_zero, List.getElem?_cons_succ, Option.some.injEq] at ho
      subst ho
      obtain rfl := F6 (hd ⟨6, .guard⟩ (by simp) rfl)
      refine wpOp_step rfl (fun K hK => ?_)
      go_simp
      refine hK _ _ ?_
      exact ⟨_, _, _, _, _, _, _, _, _, _, _, _, _, _, _, _, _, _, _, _, _, _, _, _, _, _, _, _, _, _, _, _, _, _, rfl, lk F0, lk F1, lk F2, lk F3, lk F4, lk F5, lk F6, fun _ => rfl, lk F8, lk F9, lk F10, lk F11, lk F12, lk F13, lk F14, lk F15, lk F16, lk F17, lk F18, lk F19, lk F20, lk F21, lk F22, lk F23, lk F24, lk F25, lk F26, lk F27, lk F28, lk F29, lk F30, lk F31, lk F32, lk F33, F34, F35, F36⟩
    · simp only [List.getElem?_toArray, List.getElem?_cons_zero, List.getElem?_cons_succ, Option.some.injEq] at ho
      subst ho
      obtain rfl := F7 (hd ⟨7, .data⟩ (by simp) rfl)
      obtain rfl := F6 (hd ⟨6, .guard⟩ (by simp) rfl)
      refine wpOp_step rfl (fun K hK => ?_)
      go_simp
      refine hK _ _ ?_
      exact ⟨_, _, _, _, _, _, _, _, _, _, _, _, _, _, _, _, _, _, _, _, _, _, _, _, _, _, _, _, _, _, _, _, _, _, rfl, lk F0, lk F1, lk F2, lk F3, lk F4, lk F5, lk F6, lk F7, fun _ => rfl, lk F9, lk F10, lk F11, lk F12, lk F13, lk F14, lk F15, lk F16, lk F17, lk F18, lk F19, lk F20, lk F21, lk F22, lk F23, lk F24, lk F25, lk F26, lk F27, lk F28, lk F29, lk F30, lk F31, lk F32, lk F33, F34, F35, F36⟩
    · simp only [List.getElem?_toArray, List.getElem?_cons_zero, List.getElem?_cons_succ, Option.some.injEq] at ho
      subst ho
      obtain rfl := F6 (hd ⟨6, .data⟩ (by simp) rfl)
      obtain rfl := F8 (hd ⟨8, .data⟩ (by simp) rfl)
      refine wpOp_step rfl (fun K hK => ?_)
      go_simp
      refine hK _ _ ?_
      exact ⟨_, _, _, _, _, _, _, _, _, _, _, _, _, _, _, _, _, _, _, _, _, _, _, _, _, _, _, _, _, _, _, _, _, _, rfl, lk F0, lk F1, lk F2, lk F3, lk F4, lk F5, lk F6, lk F7, lk F8, fun _ => rfl, lk F10, lk F11, lk F12, lk F13, lk F14, lk F15, lk F16, lk F17, lk F18, lk F19, lk F20, lk F21, lk F22, lk F23, lk F24, lk F25, lk F26, lk F27, lk F28, lk F29, lk F30, lk F31, lk F32, lk F33, F34, F35, F36⟩
    · simp only [List.getElem?_toArray, List.getElem?_cons_zero, List.getElem?_cons_succ, Option.some.injEq] at ho
      subst ho
      obtain rfl := F9 (hd ⟨9, .data⟩ (by simp) rfl)
      refine wpOp_step rfl (fun K hK => ?_)
      go_simp
      refine hK _ _ ?_
      exact ⟨_, _, _, _, _, _, _, _, _, _, _, _, _, _, _, _, _, _, _, _, _, _, _, _, _, _, _, _, _, _, _, _, _, _, rfl, lk F0, lk F1, lk F2, lk F3, lk F4, lk F5, lk F6, lk F7, lk F8, lk F9, fun _ => rfl, lk F11, lk F12, lk F13, lk F14, lk F15, lk F16, lk F17, lk F18, lk F19, lk F20, lk F21, lk F22, lk F23, lk F24, lk F25, lk F26, lk F27, lk F28, lk F29, lk F30, lk F31, lk F32, lk F33, F34, F35, F36⟩
    · simp only [List.getElem?_toArray, List.getElem?_cons_zero, List.getElem?_cons_succ, Option.some.injEq] at ho
      subst ho
      obtain rfl := F10 (hd ⟨10, .guard⟩ (by simp) rfl)
      refine wpOp_step rfl (fun K hK => ?_)
      go_simp
      refine hK _ _ ?_
      exact ⟨_, _, _, _, _, _, _, _, _, _, _, _, _, _, _, _, _, _, _, _, _, _, _, _, _, _, _, _, _, _, _, _, _, _, rfl, lk F0, lk F1, lk F2, lk F3, lk F4, lk F5, lk F6, lk F7, lk F8, lk F9, lk F10, fun _ => rfl, lk F12, lk F13, lk F14, lk F15, lk F16, lk F17, lk F18, lk F19, lk F20, lk F21, lk F22, lk F23, lk F24, lk F25, lk F26, lk F27, lk F28, lk F29, lk F30, lk F31, lk F32, lk F33, F34, F35, F36⟩
    · simp only [List.getElem?_toArray, List.getElem?_cons_zero, List.getElem?_cons_succ, Option.some.injEq] at ho
      subst ho
      obtain rfl := F11 (hd ⟨11, .data⟩ (by simp) rfl)
      obtain rfl := F10 (hd ⟨10, .guard⟩ (by simp) rfl)
      refine wpOp_step rfl (fun K hK => ?_)
      go_simp
      refine hK _ _ ?_
      exact ⟨_, _, _, _, _, _, _, _, _, _, _, _, _, _, _, _, _, _, _, _, _, _, _, _, _, _, _, _, _, _, _, _, _, _, rfl, lk F0, lk F1, lk F2, lk F3, lk F4, lk F5, lk F6, lk F7, lk F8, lk F9, lk F10, lk F11, fun _ => rfl, lk F13, lk F14, lk F15, lk F16, lk F17, lk F18, lk F19, lk F20, lk F21, lk F22, lk F23, lk F24, lk F25, lk F26, lk F27, lk F28, lk F29, lk F30, lk F31, lk F32, lk F33, F34, F35, F36⟩
    · simp only [List.getElem?_toArray, List.getElem?_cons_zero, List.getElem?_cons_succ, Option.some.injEq] at ho
      subst ho
      obtain rfl := F12 (hd ⟨12, .data⟩ (by simp) rfl)
      obtain rfl := F10 (hd ⟨10, .guard⟩ (by simp) rfl)
      refine wpOp_step rfl (fun K hK => ?_)
      go_simp
      refine hK _ _ ?_
      exact ⟨_, _, _, _, _, _, _, _, _, _, _, _, _, _, _, _, _, _, _, _, _, _, _, _, _, _, _, _, _, _, _, _, _, _, rfl, lk F0, lk F1, lk F2, lk F3, lk F4, lk F5, lk F6, lk F7, lk F8, lk F9, lk F10, lk F11, lk F12, fun _ => rfl, lk F14, lk F15, lk F16, lk F17, lk F18, lk F19, lk F20, lk F21, lk F22, lk F23, lk F24, lk F25, lk F26, lk F27, lk F28, lk F29, lk F30, lk F31, lk F32, lk F33, F34, F35, F36⟩
    · simp only [List.getElem?_toArray, List.getElem?_cons_zero, List.getElem?_cons_succ, Option.some.injEq] at ho
      subst ho
      obtain rfl := F10 (hd ⟨10, .data⟩ (by simp) rfl)
      obtain rfl := F13 (hd ⟨13, .data⟩ (by simp) rfl)
      refine wpOp_step rfl (fun K hK => ?_)
      go_simp
      refine hK _ _ ?_
      exact ⟨_, _, _, _, _, _, _, _, _, _, _, _, _, _, _, _, _, _, _, _, _, _, _, _, _, _, _, _, _, _, _, _, _, _, rfl, lk F0, lk F1, lk F2, lk F3, lk F4, lk F5, lk F6, lk F7, lk F8, lk F9, lk F10, lk F11, lk F12, lk F13, fun _ => rfl, lk F15, lk F16, lk F17, lk F18, lk F19, lk F20, lk F21, lk F22, lk F23, lk F24, lk F25, lk F26, lk F27, lk F28, lk F29, lk F30, lk F31, lk F32, lk F33, F34, F35, F36⟩
    · simp only [List.getElem?_toArray, List.getElem?_cons_zero, List.getElem?_cons_succ, Option.some.injEq] at ho
      subst ho
      obtain rfl := F14 (hd ⟨14, .data⟩ (by simp) rfl)
      refine wpOp_step rfl (fun K hK => ?_)
      go_simp
      refine hK _ _ ?_
      exact ⟨_, _, _, _, _, _, _, _, _, _, _, _, _, _, _, _, _, _, _, _, _, _, _, _, _, _, _, _, _, _, _, _, _, _, rfl, lk F0, lk F1, lk F2, lk F3, lk F4, lk F5, lk F6, lk F7, lk F8, lk F9, lk F10, lk F11, lk F12, lk F13, lk F14, fun _ => rfl, lk F16, lk F17, lk F18, lk F19, lk F20, lk F21, lk F22, lk F23, lk F24, lk F25, lk F26, lk F27, lk F28, lk F29, lk F30, lk F31, lk F32, lk F33, F34, F35, F36⟩
    · simp only [List.getElem?_toArray, List.getElem?_cons_zero, List.getElem?_cons_succ, Option.some.injEq] at ho
      subst ho
      obtain rfl := F15 (hd ⟨15, .guard⟩ (by simp) rfl)
      refine wpOp_step rfl (fun K hK => ?_)
      go_simp
      refine hK _ _ ?_
      exact ⟨_, _, _, _, _, _, _, _, _, _, _, _, _, _, _, _, _, _, _, _, _, _, _, _, _, _, _, _, _, _, _, _, _, _, rfl, lk F0, lk F1, lk F2, lk F3, lk F4, lk F5, lk F6, lk F7, lk F8, lk F9, lk F10, lk F11, lk F12, lk F13, lk F14, lk F15, fun _ => rfl, lk F17, lk F18, lk F19, lk F20, lk F21, lk F22, lk F23, lk F24, lk F25, lk F26, lk F27, lk F28, lk F29, lk F30, lk F31, lk F32, lk F33, F34, F35, F36⟩
    · simp only [List.getElem?_toArray, List.getElem?_cons_zero, List.getElem?_cons_succ, Option.some.injEq] at ho
      subst ho
      obtain rfl := F16 (hd ⟨16, .data⟩ (by simp) rfl)
      obtain rfl := F15 (hd ⟨15, .guard⟩ (by simp) rfl)
      refine wpOp_step rfl (fun K hK => ?_)
      go_simp
      refine hK _ _ ?_
      exact ⟨_, _, _, _, _, _, _, _, _, _, _, _, _, _, _, _, _, _, _, _, _, _, _, _, _, _, _, _, _, _, _, _, _, _, rfl, lk F0, lk F1, lk F2, lk F3, lk F4, lk F5, lk F6, lk F7, lk F8, lk F9, lk F10, lk F11, lk F12, lk F13, lk F14, lk F15, lk F16, fun _ => rfl, lk F18, lk F19, lk F20, lk F21, lk F22, lk F23, lk F24, lk F25, lk F26, lk F27, lk F28, lk F29, lk F30, lk F31, lk F32, lk F33, F34, F35, F36⟩
    · simp only [List.getElem?_toArray, List.getElem?_cons_zero, List.getElem?_cons_succ, Option.some.injEq] at ho
      subst ho
      obtain rfl := F17 (hd ⟨17, .data⟩ (by simp) rfl)
      obtain rfl := F15 (hd ⟨15, .guard⟩ (by simp) rfl)
      refine wpOp_step rfl (fun K hK => ?_)
      go_simp
      refine hK _ _ ?_
      exact ⟨_, _, _, _, _, _, _, _, _, _, _, _, _, _, _, _, _, _, _, _, _, _, _, _, _, _, _, _, _, _, _, _, _, _, rfl, lk F0, lk F1, lk F2, lk F3, lk F4, lk F5, lk F6, lk F7, lk F8, lk F9, lk F10, lk F11, lk F12, lk F13, lk F14, lk F15, lk F16, lk F17, fun _ => rfl, lk F19, lk F20, lk F21, lk F22, lk F23, lk F24, lk F25, lk F26, lk F27, lk F28, lk F29, lk F30, lk F31, lk F32, lk F33, F34, F35, F36⟩
    · simp only [List.getElem?_toArray, List.getElem?_cons_zero, List.getElem?_cons_succ, Option.some.injEq] at ho
      subst ho
      obtain rfl := F18 (hd ⟨18, .data⟩ (by simp) rfl)
      obtain rfl := F15 (hd ⟨15, .guard⟩ (by simp) rfl)
      have h0 := F35; have h1 := F36
      refine wpOp_step rfl (fun K hK => ?_)
      go_simp
      refine hK _ _ ?_
      exact ⟨_, _, _, _, _, _, _, _, _, _, _, _, _, _, _, _, _, _, _, _, _, _, _, _, _, _, _, _, _, _, _, _, _, _, rfl, lk F0, lk F1, lk F2, lk F3, lk F4, lk F5, lk F6, lk F7, lk F8, lk F9, lk F10, lk F11, lk F12, lk F13, lk F14, lk F15, lk F16, lk F17, lk F18, fun _ => rfl, lk F20, lk F21, lk F22, lk F23, lk F24, lk F25, lk F26, lk F27, lk F28, lk F29, lk F30, lk F31, lk F32, lk F33, F34, F35, F36⟩
    · simp only [List.getElem?_toArray, List.getElem?_cons_zero, List.getElem?_cons_succ, Option.some.injEq] at ho
      subst ho
      obtain rfl := F19 (hd ⟨19, .data⟩ (by simp) rfl)
      obtain rfl := F15 (hd ⟨15, .guard⟩ (by simp) rfl)
      refine wpOp_step rfl (fun K hK => ?_)
      go_simp
      refine hK _ _ ?_
      exact ⟨_, _, _, _, _, _, _, _, _, _, _, _, _, _, _, _, _, _, _, _, _, _, _, _, _, _, _, _, _, _, _, _, _, _, rfl, lk F0, lk F1, lk F2, lk F3, lk F4, lk F5, lk F6, lk F7, lk F8, lk F9, lk F10, lk F11, lk F12, lk F13, lk F14, lk F15, lk F16, lk F17, lk F18, lk F19, fun _ => rfl, lk F21, lk F22, lk F23, lk F24, lk F25, lk F26, lk F27, lk F28, lk F29, lk F30, lk F31, lk F32, lk F33, F34, F35, F36⟩
    · simp only [List.getElem?_toArray, List.getElem?_cons_zero, List.getElem?_cons_succ, Option.some.injEq] at ho
      subst ho
      obtain rfl := F15 (hd ⟨15, .data⟩ (by simp) rfl)
      obtain rfl := F20 (hd ⟨20, .data⟩ (by simp) rfl)
      refine wpOp_step rfl (fun K hK => ?_)
      go_simp
      refine hK _ _ ?_
      exact ⟨_, _, _, _, _, _, _, _, _, _, _, _, _, _, _, _, _, _, _, _, _, _, _, _, _, _, _, _, _, _, _, _, _, _, rfl, lk F0, lk F1, lk F2, lk F3, lk F4, lk F5, lk F6, lk F7, lk F8, lk F9, lk F10, lk F11, lk F12, lk F13, lk F14, lk F15, lk F16, lk F17, lk F18, lk F19, lk F20, fun _ => rfl, lk F22, lk F23, lk F24, lk F25, lk F26, lk F27, lk F28, lk F29, lk F30, lk F31, lk F32, lk F33, F34, F35, F36⟩
    · simp only [List.getElem?_toArray, List.getElem?_cons_zero, List.getElem?_cons_succ, Option.some.injEq] at ho
      subst ho
      obtain rfl := F21 (hd ⟨21, .data⟩ (by simp) rfl)
      refine wpOp_step rfl (fun K hK => ?_)
      go_simp
      refine hK _ _ ?_
      exact ⟨_, _, _, _, _, _, _, _, _, _, _, _, _, _, _, _, _, _, _, _, _, _, _, _, _, _, _, _, _, _, _, _, _, _, rfl, lk F0, lk F1, lk F2, lk F3, lk F4, lk F5, lk F6, lk F7, lk F8, lk F9, lk F10, lk F11, lk F12, lk F13, lk F14, lk F15, lk F16, lk F17, lk F18, lk F19, lk F20, lk F21, fun _ => rfl, lk F23, lk F24, lk F25, lk F26, lk F27, lk F28, lk F29, lk F30, lk F31, lk F32, lk F33, F34, F35, F36⟩
    · simp only [List.getElem?_toArray, List.getElem?_cons_zero, List.getElem?_cons_succ, Option.some.injEq] at ho
      subst ho
      obtain rfl := F22 (hd ⟨22, .guard⟩ (by simp) rfl)
      refine wpOp_step rfl (fun K hK => ?_)
      go_simp
      refine hK _ _ ?_
      exact ⟨_, _, _, _, _, _, _, _, _, _, _, _, _, _, _, _, _, _, _, _, _, _, _, _, _, _, _, _, _, _, _, _, _, _, rfl, lk F0, lk F1, lk F2, lk F3, lk F4, lk F5, lk F6, lk F7, lk F8, lk F9, lk F10, lk F11, lk F12, lk F13, lk F14, lk F15, lk F16, lk F17, lk F18, lk F19, lk F20, lk F21, lk F22, fun _ => rfl, lk F24, lk F25, lk F26, lk F27, lk F28, lk F29, lk F30, lk F31, lk F32, lk F33, F34, F35, F36⟩
    · simp only [List.getElem?_toArray, List.getElem?_cons_zero, List.getElem?_cons_succ, Option.some.injEq] at ho
      subst ho
      obtain rfl := F22 (hd ⟨22, .guard⟩ (by simp) rfl)
      refine wpOp_step rfl (fun K hK => ?_)
      go_simp
      refine hK _ _ ?_
      exact ⟨_, _, _, _, _, _, _, _, _, _, _, _, _, _, _, _, _, _, _, _, _, _, _, _, _, _, _, _, _, _, _, _, _, _, rfl, lk F0, lk F1, lk F2, lk F3, lk F4, lk F5, lk F6, lk F7, lk F8, lk F9, lk F10, lk F11, lk F12, lk F13, lk F14, lk F15, lk F16, lk F17, lk F18, lk F19, lk F20, lk F21, lk F22, lk F23, fun _ => rfl, lk F25, lk F26, lk F27, lk F28, lk F29, lk F30, lk F31, lk F32, lk F33, F34, F35, F36⟩
    · simp only [List.getElem?_toArray, List.getElem?_cons_zero, List.getElem?_cons_succ, Option.some.injEq] at ho
      subst ho
      obtain rfl := F22 (hd ⟨22, .guard⟩ (by simp) rfl)
      refine wpOp_step rfl (fun K hK => ?_)
      go_simp
      refine hK _ _ ?_
      exact ⟨_, _, _, _, _, _, _, _, _, _, _, _, _, _, _, _, _, _, _, _, _, _, _, _, _, _, _, _, _, _, _, _, _, _, rfl, lk F0, lk F1, lk F2, lk F3, lk F4, lk F5, lk F6, lk F7, lk F8, lk F9, lk F10, lk F11, lk F12, lk F13, lk F14, lk F15, lk F16, lk F17, lk F18, lk F19, lk F20, lk F21, lk F22, lk F23, lk F24, fun _ => rfl, lk F26, lk F27, lk F28, lk F29, lk F30, lk F31, lk F32, lk F33, F34, F35, F36⟩
    · simp only [List.getElem?_toArray, List.getElem?_cons_zero, List.getElem?_cons_succ, Option.some.injEq] at ho
      subst ho
      obtain rfl := F22 (hd ⟨22, .guard⟩ (by simp) rfl)
      refine wpOp_step rfl (fun K hK => ?_)
      go_simp
      refine hK _ _ ?_
      exact ⟨_, _, _, _, _, _, _, _, _, _, _, _, _, _, _, _, _, _, _, _, _, _, _, _, _, _, _, _, _, _, _, _, _, _, rfl, lk F0, lk F1, lk F2, lk F3, lk F4, lk F5, lk F6, lk F7, lk F8, lk F9, lk F10, lk F11, lk F12, lk F13, lk F14, lk F15, lk F16, lk F17, lk F18, lk F19, lk F20, lk F21, lk F22, lk F23, lk F24, lk F25, fun _ => rfl, lk F27, lk F28, lk F29, lk F30, lk F31, lk F32, lk F33, F34, F35, F36⟩
    · simp only [List.getElem?_toArray, List.getElem?_cons_zero, List.getElem?_cons_succ, Option.some.injEq] at ho
      subst ho
      obtain rfl := F22 (hd ⟨22, .guard⟩ (by simp) rfl)
      refine wpOp_step rfl (fun K hK => ?_)
      go_simp
      refine hK _ _ ?_
      exact ⟨_, _, _, _, _, _, _, _, _, _, _, _, _, _, _, _, _, _, _, _, _, _, _, _, _, _, _, _, _, _, _, _, _, _, rfl, lk F0, lk F1, lk F2, lk F3, lk F4, lk F5, lk F6, lk F7, lk F8, lk F9, lk F10, lk F11, lk F12, lk F13, lk F14, lk F15, lk F16, lk F17, lk F18, lk F19, lk F20, lk F21, lk F22, lk F23, lk F24, lk F25, lk F26, fun _ => rfl, lk F28, lk F29, lk F30, lk F31, lk F32, lk F33, F34, F35, F36⟩
    · simp only [List.getElem?_toArray, List.getElem?_cons_zero, List.getElem?_cons_succ, Option.some.injEq] at ho
      subst ho
      obtain rfl := F22 (hd ⟨22, .guard⟩ (by simp) rfl)
      refine wpOp_step rfl (fun K hK => ?_)
      go_simp
      refine hK _ _ ?_
      exact ⟨_, _, _, _, _, _, _, _, _, _, _, _, _, _, _, _, _, _, _, _, _, _, _, _, _, _, _, _, _, _, _, _, _, _, rfl, lk F0, lk F1, lk F2, lk F3, lk F4, lk F5, lk F6, lk F7, lk F8, lk F9, lk F10, lk F11, lk F12, lk F13, lk F14, lk F15, lk F16, lk F17, lk F18, lk F19, lk F20, lk F21, lk F22, lk F23, lk F24, lk F25, lk F26, lk F27, fun _ => rfl, lk F29, lk F30, lk F31, lk F32, lk F33, F34, F35, F36⟩
    · simp only [List.getElem?_toArray, List.getElem?_cons_zero, List.getElem?_cons_succ, Option.some.injEq] at ho
      subst ho
      obtain rfl := F22 (hd ⟨22, .guard⟩ (by simp) rfl)
      refine wpOp_step rfl (fun K hK => ?_)
      go_simp
      refine hK _ _ ?_
      exact ⟨_, _, _, _, _, _, _, _, _, _, _, _, _, _, _, _, _, _, _, _, _, _, _, _, _, _, _, _, _, _, _, _, _, _, rfl, lk F0, lk F1, lk F2, lk F3, lk F4, lk F5, lk F6, lk F7, lk F8, lk F9, lk F10, lk F11, lk F12, lk F13, lk F14, lk F15, lk F16, lk F17, lk F18, lk F19, lk F20, lk F21, lk F22, lk F23, lk F24, lk F25, lk F26, lk F27, lk F28, fun _ => rfl, lk F30, lk F31, lk F32, lk F33, F34, F35, F36⟩
    · simp only [List.getElem?_toArray, List.getElem?_cons_zero, List.getElem?_cons_succ, Option.some.injEq] at ho
      subst ho
      obtain rfl := F22 (hd ⟨22, .guard⟩ (by simp) rfl)
      refine wpOp_step rfl (fun K hK => ?_)
      go_simp
      refine hK _ _ ?_
      exact ⟨_, _, _, _, _, _, _, _, _, _, _, _, _, _, _, _, _, _, _, _, _, _, _, _, _, _, _, _, _, _, _, _, _, _, rfl, lk F0, lk F1, lk F2, lk F3, lk F4, lk F5, lk F6, lk F7, lk F8, lk F9, lk F10, lk F11, lk F12, lk F13, lk F14, lk F15, lk F16, lk F17, lk F18, lk F19, lk F20, lk F21, lk F22, lk F23, lk F24, lk F25, lk F26, lk F27, lk F28, lk F29, fun _ => rfl, lk F31, lk F32, lk F33, F34, F35, F36⟩
    · simp only [List.getElem?_toArray, List.getElem?_cons_zero, List.getElem?_cons_succ, Option.some.injEq] at ho
      subst ho
      obtain rfl := F22 (hd ⟨22, .guard⟩ (by simp) rfl)
      refine wpOp_step rfl (fun K hK => ?_)
      go_simp
      refine hK _ _ ?_
      exact ⟨_, _, _, _, _, _, _, _, _, _, _, _, _, _, _, _, _, _, _, _, _, _, _, _, _, _, _, _, _, _, _, _, _, _, rfl, lk F0, lk F1, lk F2, lk F3, lk F4, lk F5, lk F6, lk F7, lk F8, lk F9, lk F10, lk F11, lk F12, lk F13, lk F14, lk F15, lk F16, lk F17, lk F18, lk F19, lk F20, lk F21, lk F22, lk F23, lk F24, lk F25, lk F26, lk F27, lk F28, lk F29, lk F30, fun _ => rfl, lk F32, lk F33, F34, F35, F36⟩
    · simp only [List.getElem?_toArray, List.getElem?_cons_zero, List.getElem?_cons_succ, Option.some.injEq] at ho
      subst ho
      obtain rfl := F22 (hd ⟨22, .guard⟩ (by simp) rfl)
      refine wpOp_step rfl (fun K hK => ?_)
      go_simp
      refine hK _ _ ?_
      exact ⟨_, _, _, _, _, _, _, _, _, _, _, _, _, _, _, _, _, _, _, _, _, _, _, _, _, _, _, _, _, _, _, _, _, _, rfl, lk F0, lk F1, lk F2, lk F3, lk F4, lk F5, lk F6, lk F7, lk F8, lk F9, lk F10, lk F11, lk F12, lk F13, lk F14, lk F15, lk F16, lk F17, lk F18, lk F19, lk F20, lk F21, lk F22, lk F23, lk F24, lk F25, lk F26, lk F27, lk F28, lk F29, lk F30, lk F31, fun _ => rfl, lk F33, F34, F35, F36⟩
    · simp only [List.getElem?_toArray, List.getElem?_cons_zero, List.getElem?_cons_succ, Option.some.injEq] at ho
      subst ho
      obtain rfl := F22 (hd ⟨22, .data⟩ (by simp) rfl)
      refine wpOp_step rfl (fun K hK => ?_)
      go_simp
      refine hK _ _ ?_
      exact ⟨_, _, _, _, _, _, _, _, _, _, _, _, _, _, _, _, _, _, _, _, _, _, _, _, _, _, _, _, _, _, _, _, _, _, rfl, lk F0, lk F1, lk F2, lk F3, lk F4, lk F5, lk F6, lk F7, lk F8, lk F9, lk F10, lk F11, lk F12, lk F13, lk F14, lk F15, lk F16, lk F17, lk F18, lk F19, lk F20, lk F21, lk F22, lk F23, lk F24, lk F25, lk F26, lk F27, lk F28, lk F29, lk F30, lk F31, lk F32, fun _ => rfl, F34, F35, F36⟩
  · intro listed A w hall hI
    unfold W4I at hI
    obtain ⟨s32, hI⟩ := hI
    obtain ⟨s33, hI⟩ := hI
    obtain ⟨s34, hI⟩ := hI
    obtain ⟨s35, hI⟩ := hI
    obtain ⟨s36, hI⟩ := hI
    obtain ⟨s37, hI⟩ := hI
    obtain ⟨s38, hI⟩ := hI
    obtain ⟨s39, hI⟩ := hI
    obtain ⟨s40, hI⟩ := hI
    obtain ⟨s41, hI⟩ := hI
    obtain ⟨s42, hI⟩ := hI
    obtain ⟨s43, hI⟩ := hI
    obtain ⟨s44, hI⟩ := hI
    obtain ⟨s45, hI⟩ := hI
    obtain ⟨s46, hI⟩ := hI
    obtain ⟨s47, hI⟩ := hI
    obtain ⟨s48, hI⟩ := hI
    obtain ⟨s49, hI⟩ := hI
    obtain ⟨s50, hI⟩ := hI
    obtain ⟨s51, hI⟩ := hI
    obtain ⟨s52, hI⟩ := hI
    obtain ⟨s53, hI⟩ := hI
    obtain ⟨s54, hI⟩ := hI
    obtain ⟨s55, hI⟩ := hI
    obtain ⟨s56, hI⟩ := hI
    obtain ⟨s57, hI⟩ := hI
    obtain ⟨s58, hI⟩ := hI
    obtain ⟨s59, hI⟩ := hI
    obtain ⟨s60, hI⟩ := hI
    obtain ⟨s61, hI⟩ := hI
    obtain ⟨s62, hI⟩ := hI
    obtain ⟨s63, hI⟩ := hI
    obtain ⟨s64, hI⟩ := hI
    obtain ⟨s65, hI⟩ := hI
    obtain ⟨rfl, hI⟩ := hI
    obtain ⟨F0, hI⟩ := hI
    obtain ⟨F1, hI⟩ := hI
    obtain ⟨F2, hI⟩ := hI
    obtain ⟨F3, hI⟩ := hI
    obtain ⟨F4, hI⟩ := hI
    obtain ⟨F5, hI⟩ := hI
    obtain ⟨F6, hI⟩ := hI
    obtain ⟨F7, hI⟩ := hI
    obtain ⟨F8, hI⟩ := hI
    obtain ⟨F9, hI⟩ := hI
    obtain ⟨F10, hI⟩ := hI
    obtain ⟨F11, hI⟩ := hI
    obtain ⟨F12, hI⟩ := hI
    obtain ⟨F13, hI⟩ := hI
    obtain ⟨F14, hI⟩ := hI
    obtain ⟨F15, hI⟩ := hI
    obtain ⟨F16, hI⟩ := hI
    obtain ⟨F17, hI⟩ := hI
    obtain ⟨F18, hI⟩ := hI
    obtain ⟨F19, hI⟩ := hI
    obtain ⟨F20, hI⟩ := hI
    obtain ⟨F21, hI⟩ := hI
    obtain ⟨F22, hI⟩ := hI
    obtain ⟨F23, hI⟩ := hI
    obtain ⟨F24, hI⟩ := hI
    obtain ⟨F25, hI⟩ := hI
    obtain ⟨F26, hI⟩ := hI
    obtain ⟨F27, hI⟩ := hI
    obtain ⟨F28, hI⟩ := hI
    obtain ⟨F29, hI⟩ := hI
    obtain ⟨F30, hI⟩ := hI
    obtain ⟨F31, hI⟩ := hI
    obtain ⟨F32, hI⟩ := hI
    obtain ⟨F33, hI⟩ := hI
    obtain ⟨F34, hI⟩ := hI
    obtain ⟨F35, hI⟩ := hI
    have F36 := hI; clear hI
    obtain rfl := F0 (hall 0 (by decide))
    obtain rfl := F1 (hall 1 (by decide))
    obtain rfl := F2 (hall 2 (by decide))
    obtain rfl := F3 (hall 3 (by decide))
    obtain rfl := F4 (hall 4 (by decide))
    obtain rfl := F5 (hall 5 (by decide))
    obtain rfl := F6 (hall 6 (by decide))
    obtain rfl := F7 (hall 7 (by decide))
    obtain rfl := F8 (hall 8 (by decide))
    obtain rfl := F9 (hall 9 (by decide))
    obtain rfl := F10 (hall 10 (by decide))
    obtain rfl := F11 (hall 11 (by decide))
    obtain rfl := F12 (hall 12 (by decide))
    obtain rfl := F13 (hall 13 (by decide))
    obtain rfl := F14 (hall 14 (by decide))
    obtain rfl := F15 (hall 15 (by decide))
    obtain rfl := F16 (hall 16 (by decide))
    obtain rfl := F17 (hall 17 (by decide))
    obtain rfl := F18 (hall 18 (by decide))
    obtain rfl := F19 (hall 19 (by decide))
    obtain rfl := F20 (hall 20 (by decide))
    obtain rfl := F21 (hall 21 (by decide))
    obtain rfl := F22 (hall 22 (by decide))
    obtain rfl := F23 (hall 23 (by decide))
    obtain rfl := F24 (hall 24 (by decide))
    obtain rfl := F25 (hall 25 (by decide))
    obtain rfl := F26 (hall 26 (by decide))
    obtain rfl := F27 (hall 27 (by decide))
    obtain rfl := F28 (hall 28 (by decide))
    obtain rfl := F29 (hall 29 (by decide))
    obtain rfl := F30 (hall 30 (by decide))
    obtain rfl := F31 (hall 31 (by decide))
    obtain rfl := F32 (hall 32 (by decide))
    obtain rfl := F33 (hall 33 (by decide))
    have HB := F34
    have Q0 := F35
    have Q1 := F36
    exact hQ _ trivial HB
def W5I (w0 : World) (ad : Addr) (n c i : Nat) (x : List UInt8) (_L : Option Addr) (_m lc g _a b : Nat) (_e0 : Int) (c1 c2 c3 c7 c8 c9 c10 c11 c12 c13 c14 c15 c16 c17 c18 c19 c20 c21 c22 c23 c24 c25 c26 c27 c28 c29 c30 c31 c66 c67 c68 c69 c70 c71 c72 c73 c74 c75 c76 c77 c78 c79 c80 c81 c82 c83 c84 c85 c86 c87 c88 c89 c90 c91 c92 c93 c94 c95 c96 c97 c98 c99 c100 c101 c102 c103 c104 c105 c106 c107 c108 c109 : Value) (listed : Array Bool) (A : Act) (w : World) : Prop := ∃ (s32 s33 s34 s35 s36 s37 s38 s39 s40 s41 s42 s43 s44 s45 s46 s47 s48 s49 s50 s51 s52 s53 s54 s55 s56 s57 s58 s59 s60 s61 s62 s63 s64 s65 : Value), A = { tmps := #[.slice (some ad) n c, c1, c2, c3, .int .i64 (i : Nat), .slice (some ⟨g, 0, none⟩) 1 lc, .int .i64 0, c7, c8, c9, c10, c11, c12, c13, c14, c15, c16, c17, c18, c19, c20, c21, c22, c23, c24, c25, c26, c27, c28, c29, c30, c31, s32, s33, s34, s35, s36, s37, s38, s39, s40, s41, s42, s43, s44, s45, s46, s47, s48, s49, s50, s51, s52, s53, s54, s55, s56, s57, s58, s59, s60, s61, s62, s63, s64, s65, c66, c67, c68, c69, c70, c71, c72, c73, c74, c75, c76, c77, c78, c79, c80, c81, c82, c83, c84, c85, c86, c87, c88, c89, c90, c91, c92, c93, c94, c95, c96, c97, c98, c99, c100, c101, c102, c103, c104, c105, c106, c107, c108, c109], defers := [] } ∧
  (listed.getD 0 false = true → s32 = .slice (some ad) n c) ∧
  (listed.getD 1 false = true → s33 = .int .i64 (i : Nat)) ∧
  (listed.getD 2 false = true → s34 = .pointer (some (ad.add i))) ∧
  (listed.getD 3 false = true → s35 = .string (ba' x)) ∧
  (listed.getD 4 false = true → s36 = .int .i64 (x.length : Nat)) ∧
  (listed.getD 5 false = true → s37 = .bool false) ∧
  (listed.getD 6 false = true → s38 = .bool false) ∧
  (listed.getD 7 false = true → s39 = .int .i64 0) ∧
  (listed.getD 8 false = true → s40 = .bool false) ∧
  (listed.getD 9 false = true → s41 = .bool false) ∧
  (listed.getD 10 false = true → s42 = .bool false) ∧
  (listed.getD 11 false = true → s43 = .slice (some ⟨g, 0, none⟩) 1 lc) ∧
  (listed.getD 12 false = true → s44 = .int .i64 1) ∧
  (listed.getD 13 false = true → s45 = .bool false) ∧
  (listed.getD 14 false = true → s46 = .bool false) ∧
  (listed.getD 15 false = true → s47 = .bool false) ∧
  (listed.getD 16 false = true → s48 = .slice (some ⟨g, 0, none⟩) 1 lc) ∧
  (listed.getD 17 false = true → s49 = .pointer (some ⟨g, 0, none⟩)) ∧
  (listed.getD 18 false = true → s50 = .pointer (some ⟨g, 2, none⟩)) ∧
  (listed.getD 19 false = true → s51 = .int .i64 0) ∧
  (listed.getD 20 false = true → s52 = .bool false) ∧
  (listed.getD 21 false = true → s53 = .bool false) ∧
  (listed.getD 22 false = true → s54 = .bool false) ∧
  (listed.getD 23 false = true → s55 = .slice (some ⟨g, 0, none⟩) 1 lc) ∧
  (listed.getD 24 false = true → s56 = .pointer (some ⟨g, 0, none⟩)) ∧
  (listed.getD 25 false = true → s57 = .pointer (some ⟨g, 3, none⟩)) ∧
  (listed.getD 26 false = true → s58 = .int .i64 (b : Nat)) ∧
  (listed.getD 27 false = true → s59 = .slice (some ad) n c) ∧
  (listed.getD 28 false = true → s60 = .int .i64 (i : Nat)) ∧
  (listed.getD 29 false = true → s61 = .pointer (some (ad.add i))) ∧
  (listed.getD 30 false = true → s62 = .string (ba' x)) ∧
  (listed.getD 31 false = true → s63 = .int .i64 (x.length : Nat)) ∧
  (listed.getD 32 false = true → s64 = .bool true) ∧
  (listed.getD 33 false = true → s65 = .bool true) ∧
  Below w0.heap.size w0 w ∧
  w.cell? (ad.add i) = some (.string (ba' x)) ∧
  w.cell? ⟨g, 2, none⟩ = some (.int .i64 0) ∧
  w.cell? ⟨g, 3, none⟩ = some (.int .i64 (b : Nat))
set_option maxRecDepth 100000 in
set_option maxHeartbeats 16000000 in
theorem W5_region (ad : Addr) (n c i : Nat) (x : List UInt8) (L : Option Addr) (m lc g a b : Nat) (e0 : Int) (x32 x33 x34 x35 x36 x37 x38 x39 x40 x41 x42 x43 x44 x45 x46 x47 x48 x49 x50 x51 x52 x53 x54 x55 x56 x57 x58 x59 x60 x61 x62 x63 x64 x65 : Value) (c1 c2 c3 c7 c8 c9 c10 c11 c12 c13 c14 c15 c16 c17 c18 c19 c20 c21 c22 c23 c24 c25 c26 c27 c28 c29 c30 c31 c66 c67 c68 c69 c70 c71 c72 c73 c74 c75 c76 c77 c78 c79 c80 c81 c82 c83 c84 c85 c86 c87 c88 c89 c90 c91 c92 c93 c94 c95 c96 c97 c98 c99 c100 c101 c102 c103 c104 c105 c106 c107 c108 c109 : Value) (w0 W : World) (Q : Exit → Act → World → Prop) (hb0 : Below w0.heap.size w0 W) (C0 : W.cell? (ad.add i) = some (.string (ba' x))) (C1 : W.cell? ⟨g, 2, none⟩ = some (.int .i64 0)) (C2 : W.cell? ⟨g, 3, none⟩ = some (.int .i64 (b : Nat))) (hin : i < n) (hxs : (ba' x).size = x.length) (_hlen : ¬ 100 < x.length) (q0 : decide ((100 : Int) < (x.length : Int)) = false) (hb : (((b : Nat) : Int) != ((x.length : Nat) : Int)) = true) (_hb2 : decide (¬ ((b : Nat) : Int) = ((x.length : Nat) : Int)) = true) (_hb3 : decide (¬ b = x.length) = true)
    (hQ : ∀ (w : World) , (True) → Below w0.heap.size w0 w → Q .normal { tmps := #[.slice (some ad) n c, c1, c2, c3, .int .i64 (i : Nat), .slice (some ⟨g, 0, none⟩) 1 lc, .int .i64 0, c7, c8, c9, c10, c11, c12, c13, c14, c15, c16, c17, c18, c19, c20, c21, c22, c23, c24, c25, c26, c27, c28, c29, c30, c31, .slice (some ad) n c, .int .i64 (i : Nat), .pointer (some (ad.add i)), .string (ba' x), .int .i64 (x.length : Nat), .bool false, .bool false, .int .i64 0, .bool false, .bool false, .bool false, .slice (some ⟨g, 0, none⟩) 1 lc, .int .i64 1, .bool false, .bool false, .bool false, .slice (some ⟨g, 0, none⟩) 1 lc, .pointer (some ⟨g, 0, none⟩), .pointer (some ⟨g, 2, none⟩), .int .i64 0, .bool false, .bool false, .bool false, .slice (some ⟨g, 0, none⟩) 1 lc, .pointer (some ⟨g, 0, none⟩), .pointer (some ⟨g, 3, none⟩), .int .i64 (b : Nat), .slice (some ad) n c, .int .i64 (i : Nat), .pointer (some (ad.add i)), .string (ba' x), .int .i64 (x.length : Nat), .bool true, .bool true, c66, c67, c68, c69, c70, c71, c72, c73, c74, c75, c76, c77, c78, c79, c80, c81, c82, c83, c84, c85, c86, c87, c88, c89, c90, c91, c92, c93, c94, c95, c96, c97, c98, c99, c100, c101, c102, c103, c104, c105, c106, c107, c108, c109], defers := [] } w) :
    Code.wp Tryz.prog ((Tryz.f5.body.bind (regionOf 8)).getD .skip) Q { tmps := #[.slice (some ad) n c, c1, c2, c3, .int .i64 (i : Nat), .slice (some ⟨g, 0, none⟩) 1 lc, .int .i64 0, c7, c8, c9, c10, c11, c12, c13, c14, c15, c16, c17, c18, c19, c20, c21, c22, c23, c24, c25, c26, c27, c28, c29, c30, c31, x32, x33, x34, x35, x36, x37, x38, x39, x40, x41, x42, x43, x44, x45, x46, x47, x48, x49, x50, x51, x52, x53, x54, x55, x56, x57, x58, x59, x60, x61, x62, x63, x64, x65, c66, c67, c68, c69, c70, c71, c72, c73, c74, c75, c76, c77, c78, c79, c80, c81, c82, c83, c84, c85, c86, c87, c88, c89, c90, c91, c92, c93, c94, c95, c96, c97, c98, c99, c100, c101, c102, c103, c104, c105, c106, c107, c108, c109], defers := [] } W := by
  conv => arg 2; whnf
  refine wp_region_inv (by kernel_rfl) (by kernel_rfl) (W5I w0 ad n c i x L m lc g a b e0 c1 c2 c3 c7 c8 c9 c10 c11 c12 c13 c14 c15 c16 c17 c18 c19 c20 c21 c22 c23 c24 c25 c26 c27 c28 c29 c30 c31 c66 c67 c68 c69 c70 c71 c72 c73 c74 c75 c76 c77 c78 c79 c80 c81 c82 c83 c84 c85 c86 c87 c88 c89 c90 c91 c92 c93 c94 c95 c96 c97 c98 c99 c100 c101 c102 c103 c104 c105 c106 c107 c108 c109) ?_ ?_ ?_
  · exact ⟨_, _, _, _, _, _, _, _, _, _, _, _, _, _, _, _, _, _, _, _, _, _, _, _, _, _, _, _, _, _, _, _, _, _, rfl, fun h => absurd h l0, fun h => absurd h l0, fun h => absurd h l0, fun h => absurd h l0, fun h => absurd h l0, fun h => absurd h l0, fun h => absurd h l0, fun h => absurd h l0, fun h => absurd h l0, fun h => absurd h l0, fun h => absurd h l0, fun h => absurd h l0, fun h => absurd h l0, fun h => absurd h l0, fun h => absurd h l0, fun h => absurd h l0, fun h => absurd h l0, fun h => absurd h l0, fun h => absurd h l0, fun h => absurd h l0, fun h => absurd h l0, fun h => absurd h l0, fun h => absurd h l0, fun h => absurd h l0, fun h => absurd h l0, fun h => absurd h l0, fun h => absurd h l0, fun h => absurd h l0, fun h => absurd h l0, fun h => absurd h l0, fun h => absurd h l0, fun h => absurd h l0, fun h => absurd h l0, fun h => absurd h l0, bdr hb0, C0, C1, C2⟩
  · intro i o listed A w hi ho hd hn hI
    unfold W5I at hI
    obtain ⟨s32, hI⟩ := hI
    obtain ⟨s33, hI⟩ := hI
    obtain ⟨s34, hI⟩ := hI
    obtain ⟨s35, hI⟩ := hI
    obtain ⟨s36, hI⟩ := hI
    obtain ⟨s37, hI⟩ := hI
    obtain ⟨s38, hI⟩ := hI
    obtain ⟨s39, hI⟩ := hI
    obtain ⟨s40, hI⟩ := hI
    obtain ⟨s41, hI⟩ := hI
    obtain ⟨s42, hI⟩ := hI
    obtain ⟨s43, hI⟩ := hI
    obtain ⟨s44, hI⟩ := hI
    obtain ⟨s45, hI⟩ := hI
    obtain ⟨s46, hI⟩ := hI
    obtain ⟨s47, hI⟩ := hI
    obtain ⟨s48, hI⟩ := hI
    obtain ⟨s49, hI⟩ := hI
    obtain ⟨s50, hI⟩ := hI
    obtain ⟨s51, hI⟩ := hI
    obtain ⟨s52, hI⟩ := hI
    obtain ⟨s53, hI⟩ := hI
    obtain ⟨s54, hI⟩ := hI
    obtain ⟨s55, hI⟩ := hI
    obtain ⟨s56, hI⟩ := hI
    obtain ⟨s57, hI⟩ := hI
    obtain ⟨s58, hI⟩ := hI
    obtain ⟨s59, hI⟩ := hI
    obtain ⟨s60, hI⟩ := hI
    obtain ⟨s61, hI⟩ := hI
    obtain ⟨s62, hI⟩ := hI
    obtain ⟨s63, hI⟩ := hI
    obtain ⟨s64, hI⟩ := hI
    obtain ⟨s65, hI⟩ := hI
    obtain ⟨rfl, hI⟩ := hI
    obtain ⟨F0, hI⟩ := hI
    obtain ⟨F1, hI⟩ := hI
    obtain ⟨F2, hI⟩ := hI
    obtain ⟨F3, hI⟩ := hI
    obtain ⟨F4, hI⟩ := hI
    obtain ⟨F5, hI⟩ := hI
    obtain ⟨F6, hI⟩ := hI
    obtain ⟨F7, hI⟩ := hI
    obtain ⟨F8, hI⟩ := hI
    obtain ⟨F9, hI⟩ := hI
    obtain ⟨F10, hI⟩ := hI
    obtain ⟨F11, hI⟩ := hI
    obtain ⟨F12, hI⟩ := hI
    obtain ⟨F13, hI⟩ := hI
    obtain ⟨F14, hI⟩ := hI
    obtain ⟨F15, hI⟩ := hI
    obtain ⟨F16, hI⟩ := hI
    obtain ⟨F17, hI⟩ := hI
    obtain ⟨F18, hI⟩ := hI
    obtain ⟨F19, hI⟩ := hI
    obtain ⟨F20, hI⟩ := hI
    obtain ⟨F21, hI⟩ := hI
    obtain ⟨F22, hI⟩ := hI
    obtain ⟨F23, hI⟩ := hI
    obtain ⟨F24, hI⟩ := hI
    obtain ⟨F25, hI⟩ := hI
    obtain ⟨F26, hI⟩ := hI
    obtain ⟨F27, hI⟩ := hI
    obtain ⟨F28, hI⟩ := hI
    obtain ⟨F29, hI⟩ := hI
    obtain ⟨F30, hI⟩ := hI
    obtain ⟨F31, hI⟩ := hI
    obtain ⟨F32, hI⟩ := hI
    obtain ⟨F33, hI⟩ := hI
    obtain ⟨F34, hI⟩ := hI
    obtain ⟨F35, hI⟩ := hI
    obtain ⟨F36, hI⟩ := hI
    have F37 := hI; clear hI
    have hi' : i < 34 := hi
    clear hi
    rcases (by omega : i = 0 ∨ i = 1 ∨ i = 2 ∨ i = 3 ∨ i = 4 ∨ i = 5 ∨ i = 6 ∨ i = 7 ∨ i = 8 ∨ i = 9 ∨ i = 10 ∨ i = 11 ∨ i = 12 ∨ i = 13 ∨ i = 14 ∨ i = 15 ∨ i = 16 ∨ i = 17 ∨ i = 18 ∨ i = 19 ∨ i = 20 ∨ i = 21 ∨ i = 22 ∨ i = 23 ∨ i = 24 ∨ i = 25 ∨ i = 26 ∨ i = 27 ∨ i = 28 ∨ i = 29 ∨ i = 30 ∨ i = 31 ∨ i = 32 ∨ i = 33) with rfl | rfl | rfl | rfl | rfl | rfl | rfl | rfl | rfl | rfl | rfl | rfl | rfl | rfl | rfl | rfl | rfl | rfl | rfl | rfl | rfl | rfl | rfl | rfl | rfl | rfl | rfl | rfl | rfl | rfl | rfl | rfl | rfl | rfl
    · simp only [List.getElem?_toArray, List.getElem?_cons_zero, Option.some.injEq] at ho
      subst ho
      refine wpOp_step rfl (fun K hK => ?_)
      go_simp
      refine hK _ _ ?_
      exact ⟨_, _, _, _, _, _, _, _, _, _, _, _, _, _, _, _, _, _, _, _, _, _, _, _, _, _, _, _, _, _, _, _, _, _, rfl, fun _ => rfl, lk F1, lk F2, lk F3, lk F4, lk F5, lk F6, lk F7, lk F8, lk F9, lk F10, lk F11, lk F12, lk F13, lk F14, lk F15, lk F16, lk F17, lk F18, lk F19, lk F20, lk F21, lk F22, lk F23, lk F24, lk F25, lk F26, lk F27, lk F28, lk F29, lk F30, lk F31, lk F32, lk F33, F34, F35, F36, F37⟩
    · simp only [List.getElem?_toArray, List.getElem?_cons_zero, List.getElem?_cons_succ, Option.some.injEq] at ho
      subst ho
      refine wpOp_step rfl (fun K hK => ?_)
      go_simp
      refine hK _ _ ?_
      exact ⟨_, _, _, _, _, _, _, _, _, _, _, _, _, _, _, _, _, _, _, _, _, _, _, _, _, _, _, _, _, _, _, _, _, _, rfl, lk F0, fun _ => rfl, lk F2, lk F3, lk F4, lk F5, lk F6, lk F7, lk F8, lk F9, lk F10, lk F11, lk F12, lk F13, lk F14, lk F15, lk F16, lk F17, lk F18, lk F19, lk F20, lk F21, lk F22, lk F23, lk F24, lk F25, lk F26, lk F27, lk F28, lk F29, lk F30, lk F31, lk F32, lk F33, F34, F35, F36, F37⟩
    · simp only [List.getElem?_toArray, List.getElem?_cons_zero, List.getElem?_cons_succ, Option.some.injEq] at ho
      subst ho
      obtain rfl := F0 (hd ⟨0, .data⟩ (by simp) rfl)
      obtain rfl := F1 (hd ⟨1, .data⟩ (by simp) rfl)
      refine wpOp_step rfl (fun K hK => ?_)
      go_simp
      refine hK _ _ ?_
      exact ⟨_, _, _, _, _, _, _, _, _, _, _, _, _, _, _, _, _, _, _, _, _, _, _, _, _, _, _, _, _, _, _, _, _, _, rfl, lk F0, lk F1, fun _ => rfl, lk F3, lk F4, lk F5, lk F6, lk F7, lk F8, lk F9, lk F10, lk F11, lk F12, lk F13, lk F14, lk F15, lk F16, lk F17, lk F18, lk F19, lk F20, lk F21, lk F22, lk F23, lk F24, lk F25, lk F26, lk F27, lk F28, lk F29, lk F30, lk F31, lk F32, lk F33, F34, F35, F36, F37⟩
    · simp only [List.getElem?_toArray, List.getElem?_cons_zero, List.getElem?_cons_succ, Option.some.injEq] at ho
      subst ho
      obtain rfl := F2 (hd ⟨2, .data⟩ (by simp) rfl)
      have h0 := F35; have h1 := F36; have h2 := F37
      refine wpOp_step rfl (fun K hK => ?_)
      go_simp
      refine hK _ _ ?_
      exact ⟨_, _, _, _, _, _, _, _, _, _, _, _, _, _, _, _, _, _, _, _, _, _, _, _, _, _, _, _, _, _, _, _, _, _, rfl, lk F0, lk F1, lk F2, fun _ => rfl, lk F4, lk F5, lk F6, lk F7, lk F8, lk F9, lk F10, lk F11, lk F12, lk F13, lk F14, lk F15, lk F16, lk F17, lk F18, lk F19, lk F20, lk F21, lk F22, lk F23, lk F24, lk F25, lk F26, lk F27, lk F28, lk F29, lk F30, lk F31, lk F32, lk F33, F34, F35, F36, F37⟩
    · simp only [List.getElem?_toArray, List.getElem?_cons_zero, List.getElem?_cons_succ, Option.some.injEq] at ho
      subst ho
      obtain rfl := F3 (hd ⟨3, .data⟩ (by simp) rfl)
      refine wpOp_step rfl (fun K hK => ?_)
      go_simp
      refine hK _ _ ?_
      exact ⟨_, _, _, _, _, _, _, _, _, _, _, _, _, _, _, _, _, _, _, _, _, _, _, _, _, _, _, _, _, _, _, _, _, _, rfl, lk F0, lk F1, lk F2, lk F3, fun _ => rfl, lk F5, lk F6, lk F7, lk F8, lk F9, lk F10, lk F11, lk F12, lk F13, lk F14, lk F15, lk F16, lk F17, lk F18, lk F19, lk F20, lk F21, lk F22, lk F23, lk F24, lk F25, lk F26, lk F27, lk F28, lk F29, lk F30, lk F31, lk F32, lk F33, F34, F35, F36, F37⟩
    · simp only [List.getElem?_toArray, List.getElem?_cons_zero, List.getElem?_cons_succ, Option.some.injEq] at ho
      subst ho
      obtain rfl := F4 (hd ⟨4, .data⟩ (by simp) rfl)
      refine wpOp_step rfl (fun K hK => ?_)
      go_simp
      refine hK _ _ ?_
      exact ⟨_, _, _, _, _, _, _, _, _, _, _, _, _, _, _, _, _, _, _, _, _, _, _, _, _, _, _, _, _, _, _, _, _, _, rfl, lk F0, lk F1, lk F2, lk F3, lk F4, fun _ => rfl, lk F6, lk F7, lk F8, lk F9, lk F10, lk F11, lk F12, lk F13, lk F14, lk F15, lk F16, lk F17, lk F18, lk F19, lk F20, lk F21, lk F22, lk F23, lk F24, lk F25, lk F26, lk F27, lk F28, lk F29, lk F30, lk F31, lk F32, lk F33, F34, F35, F36, F37⟩
    · simp only [List.getElem?_toArray, List.getElem?_cons_zero, List.getElem?_cons_succ, Option.some.injEq] at ho
      subst ho
      obtain rfl := F5 (hd ⟨5, .data⟩ (by simp) rfl)
      refine wpOp_step rfl (fun K hK => ?_)
      go_simp
      refine hK _ _ ?_
      exact ⟨_, _, _, _, _, _, _, _, _, _, _, _, _, _, _, _, _, _, _, _, _, _, _, _, _, _, _, _, _, _, _, _, _, _, rfl, lk F0, lk F1, lk F2, lk F3, lk F4, lk F5, fun _ => rfl, lk F7, lk F8, lk F9, lk F10, lk F11, lk F12, lk F13, lk F14, lk F15, lk F16, lk F17, lk F18, lk F19, lk F20, lk F21, lk F22, lk F23, lk F24, lk F25, lk F26, lk F27, lk F28, lk F29, lk F30, lk F31, lk F32, lk F33, F34, F35, F36, F37⟩
    · simp only [List.getElem?_toArray, List.getElem?_cons_zero, List.getElem?_cons_succ, Option.some.injEq] at ho
      subst ho
      obtain rfl := F6 (hd ⟨6, .guard⟩ (by simp) rfl)
      refine wpOp_step rfl (fun K hK => ?_)
      go_simp
      refine hK _ _ ?_
      exact ⟨_, _, _, _, _, _, _, _, _, _, _, _, _, _, _, _, _, _, _, _, _, _, _, _, _, _, _, _, _, _, _, _, _, _, rfl, lk F0, lk F1, lk F2, lk F3, lk F4, lk F5, lk F6, fun _ => rfl, lk F8, lk F9, lk F10, lk F11, lk F12, lk F13, lk F14, lk F15, lk F16, lk F17, lk F18, lk F19, lk F20, lk F21, lk F22, lk F23, lk F24, lk F25, lk F26, lk F27, lk F28, lk F29, lk F30, lk F31, lk F32, lk F33, F34, F35, F36, F37⟩
    · simp only [List.getElem?_toArray, List.getElem?_cons_zero, List.getElem?_cons_succ, Option.some.injEq] at ho
      subst ho
      obtain rfl := F7 (hd ⟨7, .data⟩ (by simp) rfl)
      obtain rfl := F6 (hd ⟨6, .guard⟩ (by simp) rfl)
      refine wpOp_step rfl (fun K hK => ?_)
      go_simp
      refine hK _ _ ?_
      exact ⟨_, _, _, _, _, _, _, _, _, _, _, _, _, _, _, _, _, _, _, _, _, _, _, _, _, _, _, _, _, _, _, _, _, _, rfl, lk F0, lk F1, lk F2, lk F3, lk F4, lk F5, lk F6, lk F7, fun _ => rfl, lk F9, lk F10, lk F11, lk F12, lk F13, lk F14, lk F15, lk F16, lk F17, lk F18, lk F19, lk F20, lk F21, lk F22, lk F23, lk F24, lk F25, lk F26, lk F27, lk F28, lk F29, lk F30, lk F31, lk F32, lk F33, F34, F35, F36, F37⟩
    · simp only [List.getElem?_toArray, List.getElem?_cons_zero, List.getElem?_cons_succ, Option.some.injEq] at ho
      subst ho
      obtain rfl := F6 (hd ⟨6, .data⟩ (by simp) rfl)
      obtain rfl := F8 (hd ⟨8, .data⟩ (by simp) rfl)
      refine wpOp_step rfl (fun K hK => ?_)
      go_simp
      refine hK _ _ ?_
      exact ⟨_, _, _, _, _, _, _, _, _, _, _, _, _, _, _, _, _, _, _, _, _, _, _, _, _, _, _, _, _, _, _, _, _, _, rfl, lk F0, lk F1, lk F2, lk F3, lk F4, lk F5, lk F6, lk F7, lk F8, fun _ => rfl, lk F10, lk F11, lk F12, lk F13, lk F14, lk F15, lk F16, lk F17, lk F18, lk F19, lk F20, lk F21, lk F22, lk F23, lk F24, lk F25, lk F26, lk F27, lk F28, lk F29, lk F30, lk F31, lk F32, lk F33, F34, F35, F36, F37⟩
    · simp only [List.getElem?_toArray, List.getElem?_cons_zero, List.getElem?_cons_succ, Option.some.injEq] at ho
      subst ho
      obtain rfl := F9 (hd ⟨9, .data⟩ (by simp) rfl)
      refine wpOp_step rfl (fun K hK => ?_)
      go_simp
      refine hK _ _ ?_
      exact ⟨_, _, _, _, _, _, _, _, _, _, _, _, _, _, _, _, _, _, _, _, _, _, _, _, _, _, _, _, _, _, _, _, _, _, rfl, lk F0, lk F1, lk F2, lk F3, lk F4, lk F5, lk F6, lk F7, lk F8, lk F9, fun _ => rfl, lk F11, lk F12, lk F13, lk F14, lk F15, lk F16, lk F17, lk F18, lk F19, lk F20, lk F21, lk F22, lk F23, lk F24, lk F25, lk F26, lk F27, lk F28, lk F29, lk F30, lk F31, lk F32, lk F33, F34, F35, F36, F37⟩
    · simp only [List.getElem?_toArray, List.getElem?_cons_zero, List.getElem?_cons_succ, Option.some.injEq] at ho
      subst ho
      obtain rfl := F10 (hd ⟨10, .guard⟩ (by simp) rfl)
      refine wpOp_step rfl (fun K hK => ?_)
      go_simp
      refine hK _ _ ?_
      exact ⟨_, _, _, _, _, _, _, _, _, _, _, _, _, _, _, _, _, _, _, _, _, _, _, _, _, _, _, _, _, _, _, _, _, _, rfl, lk F0, lk F1, lk F2, lk F3, lk F4, lk F5, lk F6, lk F7, lk F8, lk F9, lk F10, fun _ => rfl, lk F12, lk F13, lk F14, lk F15, lk F16, lk F17, lk F18, lk F19, lk F20, lk F21, lk F22, lk F23, lk F24, lk F25, lk F26, lk F27, lk F28, lk F29, lk F30, lk F31, lk F32, lk F33, F34, F35, F36, F37⟩
    · simp only [List.getElem?_toArray, List.getElem?_cons_zero, List.getElem?_cons_succ, Option.some.injEq] at ho
      subst ho
      obtain rfl := F11 (hd ⟨11, .data⟩ (by simp) rfl)
      obtain rfl := F10 (hd ⟨10, .guard⟩ (by simp) rfl)
      refine wpOp_step rfl (fun K hK => ?_)
      go_simp
      refine hK _ _ ?_
      exact ⟨_, _, _, _, _, _, _, _, _, _, _, _, _, _, _, _, _, _, _, _, _, _, _, _, _, _, _, _, _, _, _, _, _, _, rfl, lk F0, lk F1, lk F2, lk F3, lk F4, lk F5, lk F6, lk F7, lk F8, lk F9, lk F10, lk F11, fun _ => rfl, lk F13, lk F14, lk F15, lk F16, lk F17, lk F18, lk F19, lk F20, lk F21, lk F22, lk F23, lk F24, lk F25, lk F26, lk F27, lk F28, lk F29, lk F30, lk F31, lk F32, lk F33, F34, F35, F36, F37⟩
    · simp only [List.getElem?_toArray, List.getElem?_cons_zero, List.getElem?_cons_succ, Option.some.injEq] at ho
      subst ho
      obtain rfl := F12 (hd ⟨12, .data⟩ (by simp) rfl)
      obtain rfl := F10 (hd ⟨10, .guard⟩ (by simp) rfl)
      refine wpOp_step rfl (fun K hK => ?_)
      go_simp
      refine hK _ _ ?_
      exact ⟨_, _, _, _, _, _, _, _, _, _, _, _, _, _, _, _, _, _, _, _, _, _, _, _, _, _, _, _, _, _, _, _, _, _, rfl, lk F0, lk F1, lk F2, lk F3, lk F4, lk F5, lk F6, lk F7, lk F8, lk F9, lk F10, lk F11, lk F12, fun _ => rfl, lk F14, lk F15, lk F16, lk F17, lk F18, lk F19, lk F20, lk F21, lk F22, lk F23, lk F24, lk F25, lk F26, lk F27, lk F28, lk F29, lk F30, lk F31, lk F32, lk F33, F34, F35, F36, F37⟩
    · simp only [List.getElem?_toArray, List.getElem?_cons_zero, List.getElem?_cons_succ, Option.some.injEq] at ho
      subst ho
      obtain rfl := F10 (hd ⟨10, .data⟩ (by simp) rfl)
      obtain rfl := F13 (hd ⟨13, .data⟩ (by simp) rfl)
      refine wpOp_step rfl (fun K hK => ?_)
      go_simp
      refine hK _ _ ?_
      exact ⟨_, _, _, _, _, _, _, _, _, _, _, _, _, _, _, _, _, _, _, _, _, _, _, _, _, _, _, _, _, _, _, _, _, _, rfl, lk F0, lk F1, lk F2, lk F3, lk F4, lk F5, lk F6, lk F7, lk F8, lk F9, lk F10, lk F11, lk F12, lk F13, fun _ => rfl, lk F15, lk F16, lk F17, lk F18, lk F19, lk F20, lk F21, lk F22, lk F23, lk F24, lk F25, lk F26, lk F27, lk F28, lk F29, lk F30, lk F31, lk F32, lk F33, F34, F35, F36, F37⟩
    · simp only [List.getElem?_toArray, List.getElem?_cons_zero, List.getElem?_cons_succ, Option.some.injEq] at ho
      subst ho
      obtain rfl := F14 (hd ⟨14, .data⟩ (by simp) rfl)
      refine wpOp_step rfl (fun K hK => ?_)
      go_simp
      refine hK _ _ ?_
      exact ⟨_, _, _, _, _, _, _, _, _, _, _, _, _, _, _, _, _, _, _, _, _, _, _, _, _, _, _, _, _, _, _, _, _, _, rfl, lk F0, lk F1, lk F2, lk F3, lk F4, lk F5, lk F6, lk F7, lk F8, lk F9, lk F10, lk F11, lk F12, lk F13, lk F14, fun _ => rfl, lk F16, lk F17, lk F18, lk F19, lk F20, lk F21, lk F22, lk F23, lk F24, lk F25, lk F26, lk F27, lk F28, lk F29, lk F30, lk F31, lk F32, lk F33, F34, F35, F36, F37⟩
    · simp only [List.getElem?_toArray, List.getElem?_cons_zero, List.getElem?_cons_succ, Option.some.injEq] at ho
      subst ho
      obtain rfl := F15 (hd ⟨15, .guard⟩ (by simp) rfl)
      refine wpOp_step rfl (fun K hK => ?_)
      go_simp
      refine hK _ _ ?_
      exact ⟨_, _, _, _, _, _, _, _, _, _, _, _, _, _, _, _, _, _, _, _, _, _, _, _, _, _, _, _, _, _, _, _, _, _, rfl, lk F0, lk F1, lk F2, lk F3, lk F4, lk F5, lk F6, lk F7, lk F8, lk F9, lk F10, lk F11, lk F12, lk F13, lk F14, lk F15, fun _ => rfl, lk F17, lk F18, lk F19, lk F20, lk F21, lk F22, lk F23, lk F24, lk F25, lk F26, lk F27, lk F28, lk F29, lk F30, lk F31, lk F32, lk F33, F34, F35, F36, F37⟩
    · simp only [List.getElem?_toArray, List.getElem?_cons_zero, List.getElem?_cons_succ, Option.some.injEq] at ho
      subst ho
      obtain rfl := F16 (hd ⟨16, .data⟩ (by simp) rfl)
      obtain rfl := F15 (hd ⟨15, .guard⟩ (by simp) rfl)
      refine wpOp_step rfl (fun K hK => ?_)
      go_simp
      refine hK _ _ ?_
      exact ⟨_, _, _, _, _, _, _, _, _, _, _, _, _, _, _, _, _, _, _, _, _, _, _, _, _, _, _, _, _, _, _, _, _, _, rfl, lk F0, lk F1, lk F2, lk F3, lk F4, lk F5, lk F6, lk F7, lk F8, lk F9, lk F10, lk F11, lk F12, lk F13, lk F14, lk F15, lk F16, fun _ => rfl, lk F18, lk F19, lk F20, lk F21, lk F22, lk F23, lk F24, lk F25, lk F26, lk F27, lk F28, lk F29, lk F30, lk F31, lk F32, lk F33, F34, F35, F36, F37⟩
    · simp only [List.getElem?_toArray, List.getElem?_cons_zero, List.getElem?_cons_succ, Option.some.injEq] at ho
      subst ho
      obtain rfl := F17 (hd ⟨17, .data⟩ (by simp) rfl)
      obtain rfl := F15 (hd ⟨15, .guard⟩ (by simp) rfl)
      refine wpOp_step rfl (fun K hK => ?_)
      go_simp
      refine hK _ _ ?_
      exact ⟨_, _, _, _, _, _, _, _, _, _, _, _, _, _, _, _, _, _, _, _, _, _, _, _, _, _, _, _, _, _, _, _, _, _, rfl, lk F0, lk F1, lk F2, lk F3, lk F4, lk F5, lk F6, lk F7, lk F8, lk F9, lk F10, lk F11, lk F12, lk F13, lk F14, lk F15, lk F16, lk F17, fun _ => rfl, lk F19, lk F20, lk F21, lk F22, lk F23, lk F24, lk F25, lk F26, lk F27, lk F28, lk F29, lk F30, lk F31, lk F32, lk F33, F34, F35, F36, F37⟩
    · simp only [List.getElem?_toArray, List.getElem?_cons_zero, List.getElem?_cons_succ, Option.some.injEq] at ho
      subst ho
      obtain rfl := F18 (hd ⟨18, .data⟩ (by simp) rfl)
      obtain rfl := F15 (hd ⟨15, .guard⟩ (by simp) rfl)
      have h0 := F35; have h1 := F36; have h2 := F37
      refine wpOp_step rfl (fun K hK => ?_)
      go_simp
      refine hK _ _ ?_
      exact ⟨_, _, _, _, _, _, _, _, _, _, _, _, _, _, _, _, _, _, _, _, _, _, _, _, _, _, _, _, _, _, _, _, _, _, rfl, lk F0, lk F1, lk F2, lk F3, lk F4, lk F5, lk F6, lk F7, lk F8, lk F9, lk F10, lk F11, lk F12, lk F13, lk F14, lk F15, lk F16, lk F17, lk F18, fun _ => rfl, lk F20, lk F21, lk F22, lk F23, lk F24, lk F25, lk F26, lk F27, lk F28, lk F29, lk F30, lk F31, lk F32, lk F33, F34, F35, F36, F37⟩
    · simp only [List.getElem?_toArray, List.getElem?_cons_zero, List.getElem?_cons_succ, Option.some.injEq] at ho
      subst ho
      obtain rfl := F19 (hd ⟨19, .data⟩ (by simp) rfl)
      obtain rfl := F15 (hd ⟨15, .guard⟩ (by simp) rfl)
      refine wpOp_step rfl (fun K hK => ?_)
      go_simp
      refine hK _ _ ?_
      exact ⟨_, _, _, _, _, _, _, _, _, _, _, _, _, _, _, _, _, _, _, _, _, _, _, _, _, _, _, _, _, _, _, _, _, _, rfl, lk F0, lk F1, lk F2, lk F3, lk F4, lk F5, lk F6, lk F7, lk F8, lk F9, lk F10, lk F11, lk F12, lk F13, lk F14, lk F15, lk F16, lk F17, lk F18, lk F19, fun _ => rfl, lk F21, lk F22, lk F23, lk F24, lk F25, lk F26, lk F27, lk F28, lk F29, lk F30, lk F31, lk F32, lk F33, F34, F35, F36, F37⟩
    · simp only [List.getElem?_toArray, List.getElem?_cons_zero, List.getElem?_cons_succ, Option.some.injEq] at ho
      subst ho
      obtain rfl := F15 (hd ⟨15, .data⟩ (by simp) rfl)
      obtain rfl := F20 (hd ⟨20, .data⟩ (by simp) rfl)
      refine wpOp_step rfl (fun K hK => ?_)
      go_simp
      refine hK _ _ ?_
      exact ⟨_, _, _, _, _, _, _, _, _, _, _, _, _, _, _, _, _, _, _, _, _, _, _, _, _, _, _, _, _, _, _, _, _, _, rfl, lk F0, lk F1, lk F2, lk F3, lk F4, lk F5, lk F6, lk F7, lk F8, lk F9, lk F10, lk F11, lk F12, lk F13, lk F14, lk F15, lk F16, lk F17, lk F18, lk F19, lk F20, fun _ => rfl, lk F22, lk F23, lk F24, lk F25, lk F26, lk F27, lk F28, lk F29, lk F30, lk F31, lk F32, lk F33, F34, F35, F36, F37⟩
    · simp only [List.getElem?_toArray, List.getElem?_cons_zero, List.getElem?_cons_succ, Option.some.injEq] at ho
      subst ho
      obtain rfl := F21 (hd ⟨21, .data⟩ (by simp) rfl)
      refine wpOp_step rfl (fun K hK => ?_)
      go_simp
      refine hK _ _ ?_
      exact ⟨_, _, _, _, _, _, _, _, _, _, _, _, _, _, _, _, _, _, _, _, _, _, _, _, _, _, _, _, _, _, _, _, _, _, rfl, lk F0, lk F1, lk F2, lk F3, lk F4, lk F5, lk F6, lk F7, lk F8, lk F9, lk F10, lk F11, lk F12, lk F13, lk F14, lk F15, lk F16, lk F17, lk F18, lk F19, lk F20, lk F21, fun _ => rfl, lk F23, lk F24, lk F25, lk F26, lk F27, lk F28, lk F29, lk F30, lk F31, lk F32, lk F33, F34, F35, F36, F37⟩
    · simp only [List.getElem?_toArray, List.getElem?_cons_zero, List.getElem?_cons_succ, Option.some.injEq] at ho
      subst ho
      obtain rfl := F22 (hd ⟨22, .guard⟩ (by simp) rfl)
      refine wpOp_step rfl (fun K hK => ?_)
      go_simp
      refine hK _ _ ?_
      exact ⟨_, _, _, _, _, _, _, _, _, _, _, _, _, _, _, _, _, _, _, _, _, _, _, _, _, _, _, _, _, _, _, _, _, _, rfl, lk F0, lk F1, lk F2, lk F3, lk F4, lk F5, lk F6, lk F7, lk F8, lk F9, lk F10, lk F11, lk F12, lk F13, lk F14, lk F15, lk F16, lk F17, lk F18, lk F19, lk F20, lk F21, lk F22, fun _ => rfl, lk F24, lk F25, lk F26, lk F27, lk F28, lk F29, lk F30, lk F31, lk F32, lk F33, F34, F35, F36, F37⟩
    · simp only [List.getElem?_toArray, List.getElem?_cons_zero, List.getElem?_cons_succ, Option.some.injEq] at ho
      subst ho
      obtain rfl := F23 (hd ⟨23, .data⟩ (by simp) rfl)
      obtain rfl := F22 (hd ⟨22, .guard⟩ (by simp) rfl)
      refine wpOp_step rfl (fun K hK => ?_)
      go_simp
      refine hK _ _ ?_
      exact ⟨_, _, _, _, _, _, _, _, _, _, _, _, _, _, _, _, _, _, _, _, _, _, _, _, _, _, _, _, _, _, _, _, _, _, rfl, lk F0, lk F1, lk F2, lk F3, lk F4, lk F5, lk F6, lk F7, lk F8, lk F9, lk F10, lk F11, lk F12, lk F13, lk F14, lk F15, lk F16, lk F17, lk F18, lk F19, lk F20, lk F21, lk F22, lk F23, fun _ => rfl, lk F25, lk F26, lk F27, lk F28, lk F29, lk F30, lk F31, lk F32, lk F33, F34, F35, F36, F37⟩
    · simp only [List.getElem?_toArray, List.getElem?_cons_zero, List.getElem?_cons_succ, Option.some.injEq] at ho
      subst ho
      obtain rfl := F24 (hd ⟨24, .data⟩ (by simp) rfl)
      obtain rfl := F22 (hd ⟨22, .guard⟩ (by simp) rfl)
      refine wpOp_step rfl (fun K hK => ?_)
      go_simp
      refine hK _ _ ?_
      exact ⟨_, _, _, _, _, _, _, _, _, _, _, _, _, _, _, _, _, _, _, _, _, _, _, _, _, _, _, _, _, _, _, _, _, _, rfl, lk F0, lk F1, lk F2, lk F3, lk F4, lk F5, lk F6, lk F7, lk F8, lk F9, lk F10, lk F11, lk F12, lk F13, lk F14, lk F15, lk F16, lk F17, lk F18, lk F19, lk F20, lk F21, lk F22, lk F23, lk F24, fun _ => rfl, lk F26, lk F27, lk F28, lk F29, lk F30, lk F31, lk F32, lk F33, F34, F35, F36, F37⟩
    · simp only [List.getElem?_toArray, List.getElem?_cons_zero, List.getElem?_cons_succ, Option.some.injEq] at ho
      subst ho
      obtain rfl := F25 (hd ⟨25, .data⟩ (by simp) rfl)
      obtain rfl := F22 (hd ⟨22, .guard⟩ (by simp) rfl)
      have h0 := F35; have h1 := F36; have h2 := F37
      refine wpOp_step rfl (fun K hK => ?_)
      go_simp
      refine hK _ _ ?_
      exact ⟨_, _, _, _, _, _, _, _, _, _, _, _, _, _, _, _, _, _, _, _, _, _, _, _, _, _, _, _, _, _, _, _, _, _, rfl, lk F0, lk F1, lk F2, lk F3, lk F4, lk F5, lk F6, lk F7, lk F8, lk F9, lk F10, lk F11, lk F12, lk F13, lk F14, lk F15, lk F16, lk F17, lk F18, lk F19, lk F20, lk F21, lk F22, lk F23, lk F24, lk F25, fun _ => rfl, lk F27, lk F28, lk F29, lk F30, lk F31, lk F32, lk F33, F34, F35, F36, F37⟩
    · simp only [List.getElem?_toArray, List.getElem?_cons_zero, List.getElem?_cons_succ, Option.some.injEq] at ho
      subst ho
      obtain rfl := F22 (hd ⟨22, .guard⟩ (by simp) rfl)
      refine wpOp_step rfl (fun K hK => ?_)
      go_simp
      refine hK _ _ ?_
      exact ⟨_, _, _, _, _, _, _, _, _, _, _, _, _, _, _, _, _, _, _, _, _, _, _, _, _, _, _, _, _, _, _, _, _, _, rfl, lk F0, lk F1, lk F2, lk F3, lk F4, lk F5, lk F6, lk F7, lk F8, lk F9, lk F10, lk F11, lk F12, lk F13, lk F14, lk F15, lk F16, lk F17, lk F18, lk F19, lk F20, lk F21, lk F22, lk F23, lk F24, lk F25, lk F26, fun _ => rfl, lk F28, lk F29, lk F30, lk F31, lk F32, lk F33, F34, F35, F36, F37⟩
    · simp only [List.getElem?_toArray, List.getElem?_cons_zero, List.getElem?_cons_succ, Option.some.injEq] at ho
      subst ho
      obtain rfl := F22 (hd ⟨22, .guard⟩ (by simp) rfl)
      refine wpOp_step rfl (fun K hK => ?_)
      go_simp
      refine hK _ _ ?_
      exact ⟨_, _, _, _, _, _, _, _, _, _, _, _, _, _, _, _, _, _, _, _, _, _, _, _, _, _, _, _, _, _, _, _, _, _, rfl, lk F0, lk F1, lk F2, lk F3, lk F4, lk F5, lk F6, lk F7, lk F8, lk F9, lk F10, lk F11, lk F12, lk F13, lk F14, lk F15, lk F16, lk F17, lk F18, lk F19, lk F20, lk F21, lk F22, lk F23, lk F24, lk F25, lk F26, lk F27, fun _ => rfl, lk F29, lk F30, lk F31, lk F32, lk F33, F34, F35, F36, F37⟩
    · simp only [List.getElem?_toArray, List.getElem?_cons_zero, List.getElem?_cons_succ, Option.some.injEq] at ho
      subst ho
      obtain rfl := F27 (hd ⟨27, .data⟩ (by simp) rfl)
      obtain rfl := F28 (hd ⟨28, .data⟩ (by simp) rfl)
      obtain rfl := F22 (hd ⟨22, .guard⟩ (by simp) rfl)
      refine wpOp_step rfl (fun K hK => ?_)
      go_simp
      refine hK _ _ ?_
      exact ⟨_, _, _, _, _, _, _, _, _, _, _, _, _, _, _, _, _, _, _, _, _, _, _, _, _, _, _, _, _, _, _, _, _, _, rfl, lk F0, lk F1, lk F2, lk F3, lk F4, lk F5, lk F6, lk F7, lk F8, lk F9, lk F10, lk F11, lk F12, lk F13, lk F14, lk F15, lk F16, lk F17, lk F18, lk F19, lk F20, lk F21, lk F22, lk F23, lk F24, lk F25, lk F26, lk F27, lk F28, fun _ => rfl, lk F30, lk F31, lk F32, lk F33, F34, F35, F36, F37⟩
    · simp only [List.getElem?_toArray, List.getElem?_cons_zero, List.getElem?_cons_succ, Option.some.injEq] at ho
      subst ho
      obtain rfl := F29 (hd ⟨29, .data⟩ (by simp) rfl)
      obtain rfl := F22 (hd ⟨22, .guard⟩ (by simp) rfl)
      have h0 := F35; have h1 := F36; have h2 := F37
      refine wpOp_step rfl (fun K hK => ?_)
      go_simp
      refine hK _ _ ?_
      exact ⟨_, _, _, _, _, _, _, _, _, _, _, _, _, _, _, _, _, _, _, _, _, _, _, _, _, _, _, _, _, _, _, _, _, _, rfl, lk F0, lk F1, lk F2, lk F3, lk F4, lk F5, lk F6, lk F7, lk F8, lk F9, lk F10, lk F11, lk F12, lk F13, lk F14, lk F15, lk F16, lk F17, lk F18, lk F19, lk F20, lk F21, lk F22, lk F23, lk F24, lk F25, lk F26, lk F27, lk F28, lk F29, fun _ => rfl, lk F31, lk F32, lk F33, F34, F35, F36, F37⟩
    · simp only [List.getElem?_toArray, List.getElem?_cons_zero, List.getElem?_cons_succ, Option.some.injEq] at ho
      subst ho
      obtain rfl := F30 (hd ⟨30, .data⟩ (by simp) rfl)
      obtain rfl := F22 (hd ⟨22, .guard⟩ (by simp) rfl)
      refine wpOp_step rfl (fun K hK => ?_)
      go_simp
      refine hK _ _ ?_
      exact ⟨_, _, _, _, _, _, _, _, _, _, _, _, _, _, _, _, _, _, _, _, _, _, _, _, _, _, _, _, _, _, _, _, _, _, rfl, lk F0, lk F1, lk F2, lk F3, lk F4, lk F5, lk F6, lk F7, lk F8, lk F9, lk F10, lk F11, lk F12, lk F13, lk F14, lk F15, lk F16, lk F17, lk F18, lk F19, lk F20, lk F21, lk F22, lk F23, lk F24, lk F25, lk F26, lk F27, lk F28, lk F29, lk F30, fun _ => rfl, lk F32, lk F33, F34, F35, F36, F37⟩
    · simp only [List.getElem?_toArray, List.getElem?_cons_zero, List.getElem?_cons_succ, Option.some.injEq] at ho
      subst ho
      obtain rfl := F26 (hd ⟨26, .data⟩ (by simp) rfl)
      obtain rfl := F31 (hd ⟨31, .data⟩ (by simp) rfl)
      obtain rfl := F22 (hd ⟨22, .guard⟩ (by simp) rfl)
      refine wpOp_step rfl (fun K hK => ?_)
      go_simp
      refine hK _ _ ?_
      exact ⟨_, _, _, _, _, _, _, _, _, _, _, _, _, _, _, _, _, _, _, _, _, _, _, _, _, _, _, _, _, _, _, _, _, _, rfl, lk F0, lk F1, lk F2, lk F3, lk F4, lk F5, lk F6, lk F7, lk F8, lk F9, lk F10, lk F11, lk F12, lk F13, lk F14, lk F15, lk F16, lk F17, lk F18, lk F19, lk F20, lk F21, lk F22, lk F23, lk F24, lk F25, lk F26, lk F27, lk F28, lk F29, lk F30, lk F31, fun _ => rfl, lk F33, F34, F35, F36, F37⟩
    · simp only [List.getElem?_toArray, List.getElem?_cons_zero, List.getElem?_cons_succ, Option.some.injEq] at ho
      subst ho
      obtain rfl := F22 (hd ⟨22, .data⟩ (by simp) rfl)
      obtain rfl := F32 (hd ⟨32, .data⟩ (by simp) rfl)
      refine wpOp_step rfl (fun K hK => ?_)
      go_simp
      refine hK _ _ ?_
      exact ⟨_, _, _, _, _, _, _, _, _, _, _, _, _, _, _, _, _, _, _, _, _, _, _, _, _, _, _, _, _, _, _, _, _, _, rfl, lk F0, lk F1, lk F2, lk F3, lk F4, lk F5, lk F6, lk F7, lk F8, lk F9, lk F10, lk F11, lk F12, lk F13, lk F14, lk F15, lk F16, lk F17, lk F18, lk F19, lk F20, lk F21, lk F22, lk F23, lk F24, lk F25, lk F26, lk F27, lk F28, lk F29, lk F30, lk F31, lk F32, fun _ => rfl, F34, F35, F36, F37⟩
  · intro listed A w hall hI
    unfold W5I at hI
    obtain ⟨s32, hI⟩ := hI
    obtain ⟨s33, hI⟩ := hI
    obtain ⟨s34, hI⟩ := hI
    obtain ⟨s35, hI⟩ := hI
    obtain ⟨s36, hI⟩ := hI
    obtain ⟨s37, hI⟩ := hI
    obtain ⟨s38, hI⟩ := hI
    obtain ⟨s39, hI⟩ := hI
    obtain ⟨s40, hI⟩ := hI
    obtain ⟨s41, hI⟩ := hI
    obtain ⟨s42, hI⟩ := hI
    obtain ⟨s43, hI⟩ := hI
    obtain ⟨s44, hI⟩ := hI
    obtain ⟨s45, hI⟩ := hI
    obtain ⟨s46, hI⟩ := hI
    obtain ⟨s47, hI⟩ := hI
    obtain ⟨s48, hI⟩ := hI
    obtain ⟨s49, hI⟩ := hI
    obtain ⟨s50, hI⟩ := hI
    obtain ⟨s51, hI⟩ := hI
    obtain ⟨s52, hI⟩ := hI
    obtain ⟨s53, hI⟩ := hI
    obtain ⟨s54, hI⟩ := hI
    obtain ⟨s55, hI⟩ := hI
    obtain ⟨s56, hI⟩ := hI
    obtain ⟨s57, hI⟩ := hI
    obtain ⟨s58, hI⟩ := hI
    obtain ⟨s59, hI⟩ := hI
    obtain ⟨s60, hI⟩ := hI
    obtain ⟨s61, hI⟩ := hI
    obtain ⟨s62, hI⟩ := hI
    obtain ⟨s63, hI⟩ := hI
    obtain ⟨s64, hI⟩ := hI
    obtain ⟨s65, hI⟩ := hI
    obtain ⟨rfl, hI⟩ := hI
    obtain ⟨F0, hI⟩ := hI
    obtain ⟨F1, hI⟩ := hI
    obtain ⟨F2, hI⟩ := hI
    obtain ⟨F3, hI⟩ := hI
    obtain ⟨F4, hI⟩ := hI
    obtain ⟨F5, hI⟩ := hI
    obtain ⟨F6, hI⟩ := hI
    obtain ⟨F7, hI⟩ := hI
    obtain ⟨F8, hI⟩ := hI
    obtain ⟨F9, hI⟩ := hI
    obtain ⟨F10, hI⟩ := hI
    obtain ⟨F11, hI⟩ := hI
    obtain ⟨F12, hI⟩ := hI
    obtain ⟨F13, hI⟩ := hI
    obtain ⟨F14, hI⟩ := hI
    obtain ⟨F15, hI⟩ := hI
    obtain ⟨F16, hI⟩ := hI
    obtain ⟨F17, hI⟩ := hI
    obtain ⟨F18, hI⟩ := hI
    obtain ⟨F19, hI⟩ := hI
    obtain ⟨F20, hI⟩ := hI
    obtain ⟨F21, hI⟩ := hI
    obtain ⟨F22, hI⟩ := hI
    obtain ⟨F23, hI⟩ := hI
    obtain ⟨F24, hI⟩ := hI
    obtain ⟨F25, hI⟩ := hI
    obtain ⟨F26, hI⟩ := hI
    obtain ⟨F27, hI⟩ := hI
    obtain ⟨F28, hI⟩ := hI
    obtain ⟨F29, hI⟩ := hI
    obtain ⟨F30, hI⟩ := hI
    obtain ⟨F31, hI⟩ := hI
    obtain ⟨F32, hI⟩ := hI
    obtain ⟨F33, hI⟩ := hI
    obtain ⟨F34, hI⟩ := hI
    obtain ⟨F35, hI⟩ := hI
    obtain ⟨F36, hI⟩ := hI
    have F37 := hI; clear hI
    obtain rfl := F0 (hall 0 (by decide))
    obtain rfl := F1 (hall 1 (by decide))
    obtain rfl := F2 (hall 2 (by decide))
    obtain rfl := F3 (hall 3 (by decide))
    obtain rfl := F4 (hall 4 (by decide))
    obtain rfl := F5 (hall 5 (by decide))
    obtain rfl := F6 (hall 6 (by decide))
    obtain rfl := F7 (hall 7 (by decide))
    obtain rfl := F8 (hall 8 (by decide))
    obtain rfl := F9 (hall 9 (by decide))
    obtain rfl := F10 (hall 10 (by decide))
    obtain rfl := F11 (hall 11 (by decide))
    obtain rfl := F12 (hall 12 (by decide))
    obtain rfl := F13 (hall 13 (by decide))
    obtain rfl := F14 (hall 14 (by decide))
    obtain rfl := F15 (hall 15 (by decide))
    obtain rfl := F16 (hall 16 (by decide))
    obtain rfl := F17 (hall 17 (by decide))
    obtain rfl := F18 (hall 18 (by decide))
    obtain rfl := F19 (hall 19 (by decide))
    obtain rfl := F20 (hall 20 (by decide))
    obtain rfl := F21 (hall 21 (by decide))
    obtain rfl := F22 (hall 22 (by decide))
    obtain rfl := F23 (hall 23 (by decide))
    obtain rfl := F24 (hall 24 (by decide))
    obtain rfl := F25 (hall 25 (by decide))
    obtain rfl := F26 (hall 26 (by decide))
    obtain rfl := F27 (hall 27 (by decide))
    obtain rfl := F28 (hall 28 (by decide))
    obtain rfl := F29 (hall 29 (by decide))
    obtain rfl := F30 (hall 30 (by decide))
    obtain rfl := F31 (hall 31 (by decide))
    obtain rfl := F32 (hall 32 (by decide))
    obtain rfl := F33 (hall 33 (by decide))
    have HB := F34
    have Q0 := F35
    have Q1 := F36
    have Q2 := F37
    exact hQ _ trivial HB
def W6I (w0 : World) (ad : Addr) (n c i : Nat) (x : List UInt8) (_L : Option Addr) (_m lc g _a _b : Nat) (_e0 : Int) (c1 c2 c3 c7 c8 c9 c10 c11 c12 c13 c14 c15 c16 c17 c18 c19 c20 c21 c22 c23 c24 c25 c26 c27 c28 c29 c30 c31 c66 c67 c68 c69 c70 c71 c72 c73 c74 c75 c76 c77 c78 c79 c80 c81 c82 c83 c84 c85 c86 c87 c88 c89 c90 c91 c92 c93 c94 c95 c96 c97 c98 c99 c100 c101 c102 c103 c104 c105 c106 c107 c108 c109 : Value) (listed : Array Bool) (A : Act) (w : World) : Prop := ∃ (s32 s33 s34 s35 s36 s37 s38 s39 s40 s41 s42 s43 s44 s45 s46 s47 s48 s49 s50 s51 s52 s53 s54 s55 s56 s57 s58 s59 s60 s61 s62 s63 s64 s65 : Value), A = { tmps := #[.slice (some ad) n c, c1, c2, c3, .int .i64 (i : Nat), .slice (some ⟨g, 0, none⟩) 1 lc, .int .i64 0, c7, c8, c9, c10, c11, c12, c13, c14, c15, c16, c17, c18, c19, c20, c21, c22, c23, c24, c25, c26, c27, c28, c29, c30, c31, s32, s33, s34, s35, s36, s37, s38, s39, s40, s41, s42, s43, s44, s45, s46, s47, s48, s49, s50, s51, s52, s53, s54, s55, s56, s57, s58, s59, s60, s61, s62, s63, s64, s65, c66, c67, c68, c69, c70, c71, c72, c73, c74, c75, c76, c77, c78, c79, c80, c81, c82, c83, c84, c85, c86, c87, c88, c89, c90, c91, c92, c93, c94, c95, c96, c97, c98, c99, c100, c101, c102, c103, c104, c105, c106, c107, c108, c109], defers := [] } ∧
  (listed.getD 0 false = true → s32 = .slice (some ad) n c) ∧
  (listed.getD 1 false = true → s33 = .int .i64 (i : Nat)) ∧
  (listed.getD 2 false = true → s34 = .pointer (some (ad.add i))) ∧
  (listed.getD 3 false = true → s35 = .string (ba' x)) ∧
  (listed.getD 4 false = true → s36 = .int .i64 (x.length : Nat)) ∧
  (listed.getD 5 false = true → s37 = .bool false) ∧
  (listed.getD 6 false = true → s38 = .bool false) ∧
  (listed.getD 7 false = true → s39 = .int .i64 0) ∧
  (listed.getD 8 false = true → s40 = .bool false) ∧
  (listed.getD 9 false = true → s41 = .bool false) ∧
  (listed.getD 10 false = true → s42 = .bool false) ∧
  (listed.getD 11 false = true → s43 = .slice (some ⟨g, 0, none⟩) 1 lc) ∧
  (listed.getD 12 false = true → s44 = .int .i64 1) ∧
  (listed.getD 13 false = true → s45 = .bool false) ∧
  (listed.getD 14 false = true → s46 = .bool false) ∧
  (listed.getD 15 false = true → s47 = .bool false) ∧
  (listed.getD 16 false = true → s48 = .slice (some ⟨g, 0, none⟩) 1 lc) ∧
  (listed.getD 17 false = true → s49 = .pointer (some ⟨g, 0, none⟩)) ∧
  (listed.getD 18 false = true → s50 = .pointer (some ⟨g, 2, none⟩)) ∧
  (listed.getD 19 false = true → s51 = .int .i64 0) ∧
  (listed.getD 20 false = true → s52 = .bool false) ∧
  (listed.getD 21 false = true → s53 = .bool false) ∧
  (listed.getD 22 false = true → s54 = .bool false) ∧
  (listed.getD 23 false = true → s55 = .slice (some ⟨g, 0, none⟩) 1 lc) ∧
  (listed.getD 24 false = true → s56 = .pointer (some ⟨g, 0, none⟩)) ∧
  (listed.getD 25 false = true → s57 = .pointer (some ⟨g, 3, none⟩)) ∧
  (listed.getD 26 false = true → s58 = .int .i64 (x.length : Nat)) ∧
  (listed.getD 27 false = true → s59 = .slice (some ad) n c) ∧
  (listed.getD 28 false = true → s60 = .int .i64 (i : Nat)) ∧
  (listed.getD 29 false = true → s61 = .pointer (some (ad.add i))) ∧
  (listed.getD 30 false = true → s62 = .string (ba' x)) ∧
  (listed.getD 31 false = true → s63 = .int .i64 (x.length : Nat)) ∧
  (listed.getD 32 false = true → s64 = .bool false) ∧
  (listed.getD 33 false = true → s65 = .bool false) ∧
  Below w0.heap.size w0 w ∧
  w.cell? (ad.add i) = some (.string (ba' x)) ∧
  w.cell? ⟨g, 2, none⟩ = some (.int .i64 0) ∧
  w.cell? ⟨g, 3, none⟩ = some (.int .i64 (x.length : Nat))
set_option maxRecDepth 100000 in
set_option maxHeartbeats 16000000 in
theorem W6_region (ad : Addr) (n c i : Nat) (x : List UInt8) (L : Option Addr) (m lc g a b : Nat) (e0 : Int) (x32 x33 x34 x35 x36 x37 x38 x39 x40 x41 x42 x43 x44 x45 x46 x47 x48 x49 x50 x51 x52 x53 x54 x55 x56 x57 x58 x59 x60 x61 x62 x63 x64 x65 : Value) (c1 c2 c3 c7 c8 c9 c10 c11 c12 c13 c14 c15 c16 c17 c18 c19 c20 c21 c22 c23 c24 c25 c26 c27 c28 c29 c30 c31 c66 c67 c68 c69 c70 c71 c72 c73 c74 c75 c76 c77 c78 c79 c80 c81 c82 c83 c84 c85 c86 c87 c88 c89 c90 c91 c92 c93 c94 c95 c96 c97 c98 c99 c100 c101 c102 c103 c104 c105 c106 c107 c108 c109 : Value) (w0 W : World) (Q : Exit → Act → World → Prop) (hb0 : Below w0.heap.size w0 W) (C0 : W.cell? (ad.add i) = some (.string (ba' x))) (C1 : W.cell? ⟨g, 2, none⟩ = some (.int .i64 0)) (C2 : W.cell? ⟨g, 3, none⟩ = some (.int .i64 (x.length : Nat))) (hin : i < n) (hxs : (ba' x).size = x.length) (_hlen : ¬ 100 < x.length) (q0 : decide ((100 : Int) < (x.length : Int)) = false)
    (hQ : ∀ (w : World) , (True) → Below w0.heap.size w0 w → Q .normal { tmps := #[.slice (some ad) n c, c1, c2, c3, .int .i64 (i : Nat), .slice (some ⟨g, 0, none⟩) 1 lc, .int .i64 0, c7, c8, c9, c10, c11, c12, c13, c14, c15, c16, c17, c18, c19, c20, c21, c22, c23, c24, c25, c26, c27, c28, c29, c30, c31, .slice (some ad) n c, .int .i64 (i : Nat), .pointer (some (ad.add i)), .string (ba' x), .int .i64 (x.length : Nat), .bool false, .bool false, .int .i64 0, .bool false, .bool false, .bool false, .slice (some ⟨g, 0, none⟩) 1 lc, .int .i64 1, .bool false, .bool false, .bool false, .slice (some ⟨g, 0, none⟩) 1 lc, .pointer (some ⟨g, 0, none⟩), .pointer (some ⟨g, 2, none⟩), .int .i64 0, .bool false, .bool false, .bool false, .slice (some ⟨g, 0, none⟩) 1 lc, .pointer (some ⟨g, 0, none⟩), .pointer (some ⟨g, 3, none⟩), .int .i64 (x.length : Nat), .slice (some ad) n c, .int .i64 (i : Nat), .pointer (some (ad.add i)), .string (ba' x), .int .i64 (x.length : Nat), .bool false, .bool false, c66, c67, c68, c69, c70, c71, c72, c73, c74, c75, c76, c77, c78, c79, c80, c81, c82, c83, c84, c85, c86, c87, c88, c89, c90, c91, c92, c93, c94, c95, c96, c97, c98, c99, c100, c101, c102, c103, c104, c105, c106, c107, c108, c109], defers := [] } w) :
    Code.wp Tryz.prog ((Tryz.f5.body.bind (regionOf 8)).getD .skip) Q { tmps := #[.slice (some ad) n c, c1, c2, c3, .int .i64 (i : Nat), .slice (some ⟨g, 0, none⟩) 1 lc, .int .i64 0, c7, c8, c9, c10, c11, c12, c13, c14, c15, c16, c17, c18, c19, c20, c21, c22, c23, c24, c25, c26, c27, c28, c29, c30, c31, x32, x33, x34, x35, x36, x37, x38, x39, x40, x41, x42, x43, x44, x45, x46, x47, x48, x49, x50, x51, x52, x53, x54, x55, x56, x57, x58, x59, x60, x61, x62, x63, x64, x65, c66, c67, c68, c69, c70, c71, c72, c73, c74, c75, c76, c77, c78, c79, c80, c81, c82, c83, c84, c85, c86, c87, c88, c89, c90, c91, c92, c93, c94, c95, c96, c97, c98, c99, c100, c101, c102, c103, c104, c105, c106, c107, c108, c109], defers := [] } W := by
  conv => arg 2; whnf
  refine wp_region_inv (by kernel_rfl) (by kernel_rfl) (W6I w0 ad n c i x L m lc g a b e0 c1 c2 c3 c7 c8 c9 c10 c11 c12 c13 c14 c15 c16 c17 c18 c19 c20 c21 c22 c23 c24 c25 c26 c27 c28 c29 c30 c31 c66 c67 c68 c69 c70 c71 c72 c73 c74 c75 c76 c77 c78 c79 c80 c81 c82 c83 c84 c85 c86 c87 c88 c89 c90 c91 c92 c93 c94 c95 c96 c97 c98 c99 c100 c101 c102 c103 c104 c105 c106 c107 c108 c109) ?_ ?_ ?_
  · exact ⟨_, _, _, _, _, _, _, _, _, _, _, _, _, _, _, _, _, _, _, _, _, _, _, _, _, _, _, _, _, _, _, _, _, _, rfl, fun h => absurd h l0, fun h => absurd h l0, fun h => absurd h l0, fun h => absurd h l0, fun h => absurd h l0, fun h => absurd h l0, fun h => absurd h l0, fun h => absurd h l0, fun h => absurd h l0, fun h => absurd h l0, fun h => absurd h l0, fun h => absurd h l0, fun h => absurd h l0, fun h => absurd h l0, fun h => absurd h l0, fun h => absurd h l0, fun h => absurd h l0, fun h => absurd h l0, fun h => absurd h l0, fun h => absurd h l0, fun h => absurd h l0, fun h => absurd h l0, fun h => absurd h l0, fun h => absurd h l0, fun h => absurd h l0, fun h => absurd h l0, fun h => absurd h l0, fun h => absurd h l0, fun h => absurd h l0, fun h => absurd h l0, fun h => absurd h l0, fun h => absurd h l0, fun h => absurd h l0, fun h => absurd h l0, bdr hb0, C0, C1, C2⟩
  · intro i o listed A w hi ho hd hn hI
    unfold W6I at hI
    obtain ⟨s32, hI⟩ := hI
    obtain ⟨s33, hI⟩ := hI
    obtain ⟨s34, hI⟩ := hI
    obtain ⟨s35, hI⟩ := hI
    obtain ⟨s36, hI⟩ := hI
    obtain ⟨s37, hI⟩ := hI
    obtain ⟨s38, hI⟩ := hI
    obtain ⟨s39, hI⟩ := hI
    obtain ⟨s40, hI⟩ := hI
    obtain ⟨s41, hI⟩ := hI
    obtain ⟨s42, hI⟩ := hI
    obtain ⟨s43, hI⟩ := hI
    obtain ⟨s44, hI⟩ := hI
    obtain ⟨s45, hI⟩ := hI
    obtain ⟨s46, hI⟩ := hI
    obtain ⟨s47, hI⟩ := hI
    obtain ⟨s48, hI⟩ := hI
    obtain ⟨s49, hI⟩ := hI
    obtain ⟨s50, hI⟩ := hI
    obtain ⟨s51, hI⟩ := hI
    obtain ⟨s52, hI⟩ := hI
    obtain ⟨s53, hI⟩ := hI
    obtain ⟨s54, hI⟩ := hI
    obtain ⟨s55, hI⟩ := hI
    obtain ⟨s56, hI⟩ := hI
    obtain ⟨s57, hI⟩ := hI
    obtain ⟨s58, hI⟩ := hI
    obtain ⟨s59, hI⟩ := hI
    obtain ⟨s60, hI⟩ := hI
    obtain ⟨s61, hI⟩ := hI
    obtain ⟨s62, hI⟩ := hI
    obtain ⟨s63, hI⟩ := hI
    obtain ⟨s64, hI⟩ := hI
    obtain ⟨s65, hI⟩ := hI
    obtain ⟨rfl, hI⟩ := hI
    obtain ⟨F0, hI⟩ := hI
    obtain ⟨F1, hI⟩ := hI
    obtain ⟨F2, hI⟩ := hI
    obtain ⟨F3, hI⟩ := hI
    obtain ⟨F4, hI⟩ := hI
    obtain ⟨F5, hI⟩ := hI
    obtain ⟨F6, hI⟩ := hI
    obtain ⟨F7, hI⟩ := hI
    obtain ⟨F8, hI⟩ := hI
    obtain ⟨F9, hI⟩ := hI
    obtain ⟨F10, hI⟩ := hI
    obtain ⟨F11, hI⟩ := hI
    obtain ⟨F12, hI⟩ := hI
    obtain ⟨F13, hI⟩ := hI
    obtain ⟨F14, hI⟩ := hI
    obtain ⟨F15, hI⟩ := hI
    obtain ⟨F16, hI⟩ := hI
    obtain ⟨F17, hI⟩ := hI
    obtain ⟨F18, hI⟩ := hI
    obtain ⟨F19, hI⟩ := hI
    obtain ⟨F20, hI⟩ := hI
    obtain ⟨F21, hI⟩ := hI
    obtain ⟨F22, hI⟩ := hI
    obtain ⟨F23, hI⟩ := hI
    obtain ⟨F24, hI⟩ := hI
    obtain ⟨F25, hI⟩ := hI
    obtain ⟨F26, hI⟩ := hI
    obtain ⟨F27, hI⟩ := hI
    obtain ⟨F28, hI⟩ := hI
    obtain ⟨F29, hI⟩ := hI
    obtain ⟨F30, hI⟩ := hI
    obtain ⟨F31, hI⟩ := hI
    obtain ⟨F32, hI⟩ := hI
    obtain ⟨F33, hI⟩ := hI
    obtain ⟨F34, hI⟩ := hI
    obtain ⟨F35, hI⟩ := hI
    obtain ⟨F36, hI⟩ := hI
    have F37 := hI; clear hI
    have hi' : i < 34 := hi
    clear hi
    rcases (by omega : i = 0 ∨ i = 1 ∨ i = 2 ∨ i = 3 ∨ i = 4 ∨ i = 5 ∨ i = 6 ∨ i = 7 ∨ i = 8 ∨ i = 9 ∨ i = 10 ∨ i = 11 ∨ i = 12 ∨ i = 13 ∨ i = 14 ∨ i = 15 ∨ i = 16 ∨ i = 17 ∨ i = 18 ∨ i = 19 ∨ i = 20 ∨ i = 21 ∨ i = 22 ∨ i = 23 ∨ i = 24 ∨ i = 25 ∨ i = 26 ∨ i = 27 ∨ i = 28 ∨ i = 29 ∨ i = 30 ∨ i = 31 ∨ i = 32 ∨ i = 33) with rfl | rfl | rfl | rfl | rfl | rfl | rfl | rfl | rfl | rfl | rfl | rfl | rfl | rfl | rfl | rfl | rfl | rfl | rfl | rfl | rfl | rfl | rfl | rfl | rfl | rfl | rfl | rfl | rfl | rfl | rfl | rfl | rfl | rfl
    · simp only [List.getElem?_toArray, List.getElem?_cons_zero, Option.some.injEq] at ho
      subst ho
      refine wpOp_step rfl (fun K hK => ?_)
      go_simp
      refine hK _ _ ?_
      exact ⟨_, _, _, _, _, _, _, _, _, _, _, _, _, _, _, _, _, _, _, _, _, _, _, _, _, _, _, _, _, _, _, _, _, _, rfl, fun _ => rfl, lk F1, lk F2, lk F3, lk F4, lk F5, lk F6, lk F7, lk F8, lk F9, lk F10, lk F11, lk F12, lk F13, lk F14, lk F15, lk F16, lk F17, lk F18, lk F19, lk F20, lk F21, lk F22, lk F23, lk F24, lk F25, lk F26, lk F27, lk F28, lk F29, lk F30, lk F31, lk F32, lk F33, F34, F35, F36, F37⟩
    · simp only [List.getElem?_toArray, List.getElem?_cons_zero, List.getElem?_cons_succ, Option.some.injEq] at ho
      subst ho
      refine wpOp_step rfl (fun K hK => ?_)
      go_simp
      refine hK _ _ ?_
      exact ⟨_, _, _, _, _, _, _, _, _, _, _, _, _, _, _, _, _, _, _, _, _, _, _, _, _, _, _, _, _, _, _, _, _, _, rfl, lk F0, fun _ => rfl, lk F2, lk F3, lk F4, lk F5, lk F6, lk F7, lk F8, lk F9, lk F10, lk F11, lk F12, lk F13, lk F14, lk F15, lk F16, lk F17, lk F18, lk F19, lk F20, lk F21, lk F22, lk F23, lk F24, lk F25, lk F26, lk F27, lk F28, lk F29, lk F30, lk F31, lk F32, lk F33, F34, F35, F36, F37⟩
    · simp only [List.getElem?_toArray, List.getElem?_cons_zero, List.getElem?_cons_succ, Option.some.injEq] at ho
      subst ho
      obtain rfl := F0 (hd ⟨0, .data⟩ (by simp) rfl)
      obtain rfl := F1 (hd ⟨1, .data⟩ (by simp) rfl)
      refine wpOp_step rfl (fun K hK => ?_)
      go_simp
      refine hK _ _ ?_
      exact ⟨_, _, _, _, _, _, _, _, _, _, _, _, _, _, _, _, _, _, _, _, _, _, _, _, _, _, _, _, _, _, _, _, _, _, rfl, lk F0, lk F1, fun _ => rfl, lk F3, lk F4, lk F5, lk F6, lk F7, lk F8, lk F9, lk F10, lk F11, lk F12, lk F13, lk F14, lk F15, lk F16, lk F17, lk F18, lk F19, lk F20, lk F21, lk F22, lk F23, lk F24, lk F25, lk F26, lk F27, lk F28, lk F29, lk F30, lk F31, lk F32, lk F33, F34, F35, F36, F37⟩
    · simp only [List.getElem?_toArray, List.getElem?_cons_zero, List.getElem?_cons_succ, Option.some.injEq] at ho
      subst ho
      obtain rfl := F2 (hd ⟨2, .data⟩ (by simp) rfl)
      have h0 := F35; have h1 := F36; have h2 := F37
      refine wpOp_step rfl (fun K hK => ?_)
      go_simp
      refine hK _ _ ?_
      exact ⟨_, _, _, _, _, _, _, _, _, _, _, _, _, _, _, _, _, _, _, _, _, _, _, _, _, _, _, _, _, _, _, _, _, _, rfl, lk F0, lk F1, lk F2, fun _ => rfl, lk F4, lk F5, lk F6, lk F7, lk F8, lk F9, lk F10, lk F11, lk F12, lk F13, lk F14, lk F15, lk F16, lk F17, lk F18, lk F19, lk F20, lk F21, lk F22, lk F23, lk F24, lk F25, lk F26, lk F27, lk F28, lk F29, lk F30, lk F31, lk F32, lk F33, F34, F35, F36, F37⟩
    · simp only [List.getElem?_toArray, List.getElem?_cons_zero, List.getElem?_cons_succ, Option.some.injEq] at ho
      subst ho
      obtain rfl := F3 (hd ⟨3, .data⟩ (by simp) rfl)
      refine wpOp_step rfl (fun K hK => ?_)
      go_simp
      refine hK _ _ ?_
      exact ⟨_, _, _, _, _, _, _, _, _, _, _, _, _, _, _, _, _, _, _, _, _, _, _, _, _, _, _, _, _, _, _, _, _, _, rfl, lk F0, lk F1, lk F2, lk F3, fun _ => rfl, lk F5, lk F6, lk F7, lk F8, lk F9, lk F10, lk F11, lk F12, lk F13, lk F14, lk F15, lk F16, lk F17, lk F18, lk F19, lk F20, lk F21, lk F22, lk F23, lk F24, lk F25, lk F26, lk F27, lk F28, lk F29, lk F30, lk F31, lk F32, lk F33, F34, F35, F36, F37⟩
    · simp only [List.getElem?_toArray, List.getElem?_cons_zero, List.getElem?_cons_succ, Option.some.injEq] at ho
      subst ho
      obtain rfl := F4 (hd ⟨4, .data⟩ (by simp) rfl)
      refine wpOp_step rfl (fun K hK => ?_)
      go_simp
      refine hK _ _ ?_
      exact ⟨_, _, _, _, _, _, _, _, _, _, _, _, _, _, _, _, _, _, _, _, _, _, _, _, _, _, _, _, _, _, _, _, _, _, rfl, lk F0, lk F1, lk F2, lk F3, lk F4, fun _ => rfl, lk F6, lk F7, lk F8, lk F9, lk F10, lk F11, lk F12, lk F13, lk F14, lk F15, lk F16, lk F17, lk F18, lk F19, lk F20, lk F21, lk F22, lk F23, lk F24, lk F25, lk F26, lk F27, lk F28, lk F29, lk F30, lk F31, lk F32, lk F33, F34, F35, F36, F37⟩
    · simp only [List.getElem?_toArray, List.getElem?_cons_zero, List.getElem?_cons_succ, Option.some.injEq] at ho
      subst ho
      obtain rfl := F5 (hd ⟨5, .data⟩ (by simp) rfl)
      refine wpOp_step rfl (fun K hK => ?_)
      go_simp
      refine hK _ _ ?_
      exact ⟨_, _, _, _, _, _, _, _, _, _, _, _, _, _, _, _, _, _, _, _, _, _, _, _, _, _, _, _, _, _, _, _, _, _, rfl, lk F0, lk F1, lk F2, lk F3, lk F4, lk F5, fun _ => rfl, lk F7, lk F8, lk F9, lk F10, lk F11, lk F12, lk F13, lk F14, lk F15, lk F16, lk F17, lk F18, lk F19, lk F20, lk F21, lk F22, lk F23, lk F24, lk F25, lk F26, lk F27, lk F28, lk F29, lk F30, lk F31, lk F32, lk F33, F34, F35, F36, F37⟩
    · simp only [List.getElem?_toArray, List.getElem?_cons_zero, List.getElem?_cons_succ, Option.some.injEq] at ho
      subst ho
      obtain rfl := F6 (hd ⟨6, .guard⟩ (by simp) rfl)
      refine wpOp_step rfl (fun K hK => ?_)
      go_simp
      refine hK _ _ ?_
      exact ⟨_, _, _, _, _, _, _, _, _, _, _, _, _, _, _, _, _, _, _, _, _, _, _, _, _, _, _, _, _, _, _, _, _, _, rfl, lk F0, lk F1, lk F2, lk F3, lk F4, lk F5, lk F6, fun _ => rfl, lk F8, lk F9, lk F10, lk F11, lk F12, lk F13, lk F14, lk F15, lk F16, lk F17, lk F18, lk F19, lk F20, lk F21, lk F22, lk F23, lk F24, lk F25, lk F26, lk F27, lk F28, lk F29, lk F30, lk F31, lk F32, lk F33, F34, F35, F36, F37⟩
    · simp only [List.getElem?_toArray, List.getElem?_cons_zero, List.getElem?_cons_succ, Option.some.injEq] at ho
      subst ho
      obtain rfl := F7 (hd ⟨7, .data⟩ (by simp) rfl)
      obtain rfl := F6 (hd ⟨6, .guard⟩ (by simp) rfl)
      refine wpOp_step rfl (fun K hK => ?_)
      go_simp
      refine hK _ _ ?_
      exact ⟨_, _, _, _, _, _, _, _, _, _, _, _, _, _, _, _, _, _, _, _, _, _, _, _, _, _, _, _, _, _, _, _, _, _, rfl, lk F0, lk F1, lk F2, lk F3, lk F4, lk F5, lk F6, lk F7, fun _ => rfl, lk F9, lk F10, lk F11, lk F12, lk F13, lk F14, lk F15, lk F16, lk F17, lk F18, lk F19, lk F20, lk F21, lk F22, lk F23, lk F24, lk F25, lk F26, lk F27, lk F28, lk F29, lk F30, lk F31, lk F32, lk F33, F34, F35, F36, F37⟩
    · simp only [List.getElem?_toArray, List.getElem?_cons_zero, List.getElem?_cons_succ, Option.some.injEq] at ho
      subst ho
      obtain rfl := F6 (hd ⟨6, .data⟩ (by simp) rfl)
      obtain rfl := F8 (hd ⟨8, .data⟩ (by simp) rfl)
      refine wpOp_step rfl (fun K hK => ?_)
      go_simp
      refine hK _ _ ?_
      exact ⟨_, _, _, _, _, _, _, _, _, _, _, _, _, _, _, _, _, _, _, _, _, _, _, _, _, _, _, _, _, _, _, _, _, _, rfl, lk F0, lk F1, lk F2, lk F3, lk F4, lk F5, lk F6, lk F7, lk F8, fun _ => rfl, lk F10, lk F11, lk F12, lk F13, lk F14, lk F15, lk F16, lk F17, lk F18, lk F19, lk F20, lk F21, lk F22, lk F23, lk F24, lk F25, lk F26, lk F27, lk F28, lk F29, lk F30, lk F31, lk F32, lk F33, F34, F35, F36, F37⟩
    · simp only [List.getElem?_toArray, List.getElem?_cons_zero, List.getElem?_cons_succ, Option.some.injEq] at ho
      subst ho
      obtain rfl := F9 (hd ⟨9, .data⟩ (by simp) rfl)
      refine wpOp_step rfl (fun K hK => ?_)
      go_simp
      refine hK _ _ ?_
      exact ⟨_, _, _, _, _, _, _, _, _, _, _, _, _, _, _, _, _, _, _, _, _, _, _, _, _, _, _, _, _, _, _, _, _, _, rfl, lk F0, lk F1, lk F2, lk F3, lk F4, lk F5, lk F6, lk F7, lk F8, lk F9, fun _ => rfl, lk F11, lk F12, lk F13, lk F14, lk F15, lk F16, lk F17, lk F18, lk F19, lk F20, lk F21, lk F22, lk F23, lk F24, lk F25, lk F26, lk F27, lk F28, lk F29, lk F30, lk F31, lk F32, lk F33, F34, F35, F36, F37⟩
    · simp only [List.getElem?_toArray, List.getElem?_cons_zero, List.getElem?_cons_succ, Option.some.injEq] at ho
      subst ho
      obtain rfl := F10 (hd ⟨10, .guard⟩ (by simp) rfl)
      refine wpOp_step rfl (fun K hK => ?_)
      go_simp
      refine hK _ _ ?_
      exact ⟨_, _, _, _, _, _, _, _, _, _, _, _, _, _, _, _, _, _, _, _, _, _, _, _, _, _, _, _, _, _, _, _, _, _, rfl, lk F0, lk F1, lk F2, lk F3, lk F4, lk F5, lk F6, lk F7, lk F8, lk F9, lk F10, fun _ => rfl, lk F12, lk F13, lk F14, lk F15, lk F16, lk F17, lk F18, lk F19, lk F20, lk F21, lk F22, lk F23, lk F24, lk F25, lk F26, lk F27, lk F28, lk F29, lk F30, lk F31, lk F32, lk F33, F34, F35, F36, F37⟩
    · simp only [List.getElem?_toArray, List.getElem?_cons_zero, List.getElem?_cons_succ, Option.some.injEq] at ho
      subst ho
      obtain rfl := F11 (hd ⟨11, .data⟩ (by simp) rfl)
      obtain rfl := F10 (hd ⟨10, .guard⟩ (by simp) rfl)
      refine wpOp_step rfl (fun K hK => ?_)
      go_simp
      refine hK _ _ ?_
      exact ⟨_, _, _, _, _, _, _, _, _, _, _, _, _, _, _, _, _, _, _, _, _, _, _, _, _, _, _, _, _, _, _, _, _, _, rfl, lk F0, lk F1, lk F2, lk F3, lk F4, lk F5, lk F6, lk F7, lk F8, lk F9, lk F10, lk F11, fun _ => rfl, lk F13, lk F14, lk F15, lk F16, lk F17, lk F18, lk F19, lk F20, lk F21, lk F22, lk F23, lk F24, lk F25, lk F26, lk F27, lk F28, lk F29, lk F30, lk F31, lk F32, lk F33, F34, F35, F36, F37⟩
    · simp only [List.getElem?_toArray, List.getElem?_cons_zero, List.getElem?_cons_succ, Option.some.injEq] at ho
      subst ho
      obtain rfl := F12 (hd ⟨12, .data⟩ (by simp) rfl)
      obtain rfl := F10 (hd ⟨10, .guard⟩ (by simp) rfl)
      refine wpOp_step rfl (fun K hK => ?_)
      go_simp
      refine hK _ _ ?_
      exact ⟨_, _, _, _, _, _, _, _, _, _, _, _, _, _, _, _, _, _, _, _, _, _, _, _, _, _, _, _, _, _, _, _, _, _, rfl, lk F0, lk F1, lk F2, lk F3, lk F4, lk F5, lk F6, lk F7, lk F8, lk F9, lk F10, lk F11, lk F12, fun _ => rfl, lk F14, lk F15, lk F16, lk F17, lk F18, lk F19, lk F20, lk F21, lk F22, lk F23, lk F24, lk F25, lk F26, lk F27, lk F28, lk F29, lk F30, lk F31, lk F32, lk F33, F34, F35, F36, F37⟩
    · simp only [List.getElem?_toArray, List.getElem?_cons_zero, List.getElem?_cons_succ, Option.some.injEq] at ho
      subst ho
      obtain rfl := F10 (hd ⟨10, .data⟩ (by simp) rfl)
      obtain rfl := F13 (hd ⟨13, .data⟩ (by simp) rfl)
      refine wpOp_step rfl (fun K hK => ?_)
      go_simp
      refine hK _ _ ?_
      exact ⟨_, _, _, _, _, _, _, _, _, _, _, _, _, _, _, _, _, _, _, _, _, _, _, _, _, _, _, _, _, _, _, _, _, _, rfl, lk F0, lk F1, lk F2, lk F3, lk F4, lk F5, lk F6, lk F7, lk F8, lk F9, lk F10, lk F11, lk F12, lk F13, fun _ => rfl, lk F15, lk F16, lk F17, lk F18, lk F19, lk F20, lk F21, lk F22, lk F23, lk F24, lk F25, lk F26, lk F27, lk F28, lk F29, lk F30, lk F31, lk F32, lk F33, F34, F35, F36, F37⟩
    · simp only [List.getElem?_toArray, List.getElem?_cons_zero, List.getElem?_cons_succ, Option.some.injEq] at ho
      subst ho
      obtain rfl := F14 (hd ⟨14, .data⟩ (by simp) rfl)
      refine wpOp_step rfl (fun K hK => ?_)
      go_simp
      refine hK _ _ ?_
      exact ⟨_, _, _, _, _, _, _, _, _, _, _, _, _, _, _, _, _, _, _, _, _, _, _, _, _, _, _, _, _, _, _, _, _, _, rfl, lk F0, lk F1, lk F2, lk F3, lk F4, lk F5, lk F6, lk F7, lk F8, lk F9, lk F10, lk F11, lk F12, lk F13, lk F14, fun _ => rfl, lk F16, lk F17, lk F18, lk F19, lk F20, lk F21, lk F22, lk F23, lk F24, lk F25, lk F26, lk F27, lk F28, lk F29, lk F30, lk F31, lk F32, lk F33, F34, F35, F36, F37⟩
    · simp only [List.getElem?_toArray, List.getElem?_cons_zero, List.getElem?_cons_succ, Option.some.injEq] at ho
      subst ho
      obtain rfl := F15 (hd ⟨15, .guard⟩ (by simp) rfl)
      refine wpOp_step rfl (fun K hK => ?_)
      go_simp
      refine hK _ _ ?_
      exact ⟨_, _, _, _, _, _, _, _, _, _, _, _, _, _, _, _, _, _, _, _, _, _, _, _, _, _, _, _, _, _, _, _, _, _, rfl, lk F0, lk F1, lk F2, lk F3, lk F4, lk F5, lk F6, lk F7, lk F8, lk F9, lk F10, lk F11, lk F12, lk F13, lk F14, lk F15, fun _ => rfl, lk F17, lk F18, lk F19, lk F20, lk F21, lk F22, lk F23, lk F24, lk F25, lk F26, lk F27, lk F28, lk F29, lk F30, lk F31, lk F32, lk F33, F34, F35, F36, F37⟩
    · simp only [List.getElem?_toArray, List.getElem?_cons_zero, List.getElem?_cons_succ, Option.some.injEq] at ho
      subst ho
      obtain rfl := F16 (hd ⟨16, .data⟩ (by simp) rfl)
      obtain rfl := F15 (hd ⟨15, .guard⟩ (by simp) rfl)
      refine wpOp_step rfl (fun K hK => ?_)
      go_simp
      refine hK _ _ ?_
      exact ⟨_, _, _, _, _, _, _, _, _, _, _, _, _, _, _, _, _, _, _, _, _, _, _, _, _, _, _, _, _, _, _, _, _, _, rfl, lk F0, lk F1, lk F2, lk F3, lk F4, lk F5, lk F6, lk F7, lk F8, lk F9, lk F10, lk F11, lk F12, lk F13, lk F14, lk F15, lk F16, fun _ => rfl, lk F18, lk F19, lk F20, lk F21, lk F22, lk F23, lk F24, lk F25, lk F26, lk F27, lk F28, lk F29, lk F30, lk F31, lk F32, lk F33, F34, F35, F36, F37⟩
    · simp only [List.getElem?_toArray, List.getElem?_cons_zero, List.getElem?_cons_succ, Option.some.injEq] at ho
      subst ho
      obtain rfl := F17 (hd ⟨17, .data⟩ (by simp) rfl)
      obtain rfl := F15 (hd ⟨15, .guard⟩ (by simp) rfl)
      refine wpOp_step rfl (fun K hK => ?_)
      go_simp
      refine hK _ _ ?_
      exact ⟨_, _, _, _, _, _, _, _, _, _, _, _, _, _, _, _, _, _, _, _, _, _, _, _, _, _, _, _, _, _, _, _, _, _, rfl, lk F0, lk F1, lk F2, lk F3, lk F4, lk F5, lk F6, lk F7, lk F8, lk F9, lk F10, lk F11, lk F12, lk F13, lk F14, lk F15, lk F16, lk F17, fun _ => rfl, lk F19, lk F20, lk F21, lk F22, lk F23, lk F24, lk F25, lk F26, lk F27, lk F28, lk F29, lk F30, lk F31, lk F32, lk F33, F34, F35, F36, F37⟩
    · simp only [List.getElem?_toArray, List.getElem?_cons_zero, List.getElem?_cons_succ, Option.some.injEq] at ho
      subst ho
      obtain rfl := F18 (hd ⟨18, .data⟩ (by simp) rfl)
      obtain rfl := F15 (hd ⟨15, .guard⟩ (by simp) rfl)
      have h0 := F35; have h1 := F36; have h2 := F37
      refine wpOp_step rfl (fun K hK => ?_)
      go_simp
      refine hK _ _ ?_
      exact ⟨_, _, _, _, _, _, _, _, _, _, _, _, _, _, _, _, _, _, _, _, _, _, _, _, _, _, _, _, _, _, _, _, _, _, rfl, lk F0, lk F1, lk F2, lk F3, lk F4, lk F5, lk F6, lk F7, lk F8, lk F9, lk F10, lk F11, lk F12, lk F13, lk F14, lk F15, lk F16, lk F17, lk F18, fun _ => rfl, lk F20, lk F21, lk F22, lk F23, lk F24, lk F25, lk F26, lk F27, lk F28, lk F29, lk F30, lk F31, lk F32, lk F33, F34, F35, F36, F37⟩
    · simp only [List.getElem?_toArray, List.getElem?_cons_zero, List.getElem?_cons_succ, Option.some.injEq] at ho
      subst ho
      obtain rfl := F19 (hd ⟨19, .data⟩ (by simp) rfl)
      obtain rfl := F15 (hd ⟨15, .guard⟩ (by simp) rfl)
      refine wpOp_step rfl (fun K hK => ?_)
      go_simp
      refine hK _ _ ?_
      exact ⟨_, _, _, _, _, _, _, _, _, _, _, _, _, _, _, _, _, _, _, _, _, _, _, _, _, _, _, _, _, _, _, _, _, _, rfl, lk F0, lk F1, lk F2, lk F3, lk F4, lk F5, lk F6, lk F7, lk F8, lk F9, lk F10, lk F11, lk F12, lk F13, lk F14, lk F15, lk F16, lk F17, lk F18, lk F19, fun _ => rfl, lk F21, lk F22, lk F23, lk F24, lk F25, lk F26, lk F27, lk F28, lk F29, lk F30, lk F31, lk F32, lk F33, F34, F35, F36, F37⟩
    · simp only [List.getElem?_toArray, List.getElem?_cons_zero, List.getElem?_cons_succ, Option.some.injEq] at ho
      subst ho
      obtain rfl := F15 (hd ⟨15, .data⟩ (by simp) rfl)
      obtain rfl := F20 (hd ⟨20, .data⟩ (by simp) rfl)
      refine wpOp_step rfl (fun K hK => ?_)
      go_simp
      refine hK _ _ ?_
      exact ⟨_, _, _, _, _, _, _, _, _, _, _, _, _, _, _, _, _, _, _, _, _, _, _, _, _, _, _, _, _, _, _, _, _, _, rfl, lk F0, lk F1, lk F2, lk F3, lk F4, lk F5, lk F6, lk F7, lk F8, lk F9, lk F10, lk F11, lk F12, lk F13, lk F14, lk F15, lk F16, lk F17, lk F18, lk F19, lk F20, fun _ => rfl, lk F22, lk F23, lk F24, lk F25, lk F26, lk F27, lk F28, lk F29, lk F30, lk F31, lk F32, lk F33, F34, F35, F36, F37⟩
    · simp only [List.getElem?_toArray, List.getElem?_cons_zero, List.getElem?_cons_succ, Option.some.injEq] at ho
      subst ho
      obtain rfl := F21 (hd ⟨21, .data⟩ (by simp) rfl)
      refine wpOp_step rfl (fun K hK => ?_)
      go_simp
      refine hK _ _ ?_
      exact ⟨_, _, _, _, _, _, _, _, _, _, _, _, _, _, _, _, _, _, _, _, _, _, _, _, _, _, _, _, _, _, _, _, _, _, rfl, lk F0, lk F1, lk F2, lk F3, lk F4, lk F5, lk F6, lk F7, lk F8, lk F9, lk F10, lk F11, lk F12, lk F13, lk F14, lk F15, lk F16, lk F17, lk F18, lk F19, lk F20, lk F21, fun _ => rfl, lk F23, lk F24, lk F25, lk F26, lk F27, lk F28, lk F29, lk F30, lk F31, lk F32, lk F33, F34, F35, F36, F37⟩
    · simp only [List.getElem?_toArray, List.getElem?_cons_zero, List.getElem?_cons_succ, Option.some.injEq] at ho
      subst ho
      obtain rfl := F22 (hd ⟨22, .guard⟩ (by simp) rfl)
      refine wpOp_step rfl (fun K hK => ?_)
      go_simp
      refine hK _ _ ?_
      exact ⟨_, _, _, _, _, _, _, _, _, _, _, _, _, _, _, _, _, _, _, _, _, _, _, _, _, _, _, _, _, _, _, _, _, _, rfl, lk F0, lk F1, lk F2, lk F3, lk F4, lk F5, lk F6, lk F7, lk F8, lk F9, lk F10, lk F11, lk F12, lk F13, lk F14, lk F15, lk F16, lk F17, lk F18, lk F19, lk F20, lk F21, lk F22, fun _ => rfl, lk F24, lk F25, lk F26, lk F27, lk F28, lk F29, lk F30, lk F31, lk F32, lk F33, F34, F35, F36, F37⟩
    · simp only [List.getElem?_toArray, List.getElem?_cons_zero, List.getElem?_cons_succ, Option.some.injEq] at ho
      subst ho
      obtain rfl := F23 (hd ⟨23, .data⟩ (by simp) rfl)
      obtain rfl := F22 (hd ⟨22, .guard⟩ (by simp) rfl)
      refine wpOp_step rfl (fun K hK => ?_)
      go_simp
      refine hK _ _ ?_
      exact ⟨_, _, _, _, _, _, _, _, _, _, _, _, _, _, _, _, _, _, _, _, _, _, _, _, _, _, _, _, _, _, _, _, _, _, rfl, lk F0, lk F1, lk F2, lk F3, lk F4, lk F5, lk F6, lk F7, lk F8, lk F9, lk F10, lk F11, lk F12, lk F13, lk F14, lk F15, lk F16, lk F17, lk F18, lk F19, lk F20, lk F21, lk F22, lk F23, fun _ => rfl, lk F25, lk F26, lk F27, lk F28, lk F29, lk F30, lk F31, lk F32, lk F33, F34, F35, F36, F37⟩
    · simp only [List.getElem?_toArray, List.getElem?_cons_zero, List.getElem?_cons_succ, Option.some.injEq] at ho
      subst ho
      obtain rfl := F24 (hd ⟨24, .data⟩ (by simp) rfl)
      obtain rfl := F22 (hd ⟨22, .guard⟩ (by simp) rfl)
      refine wpOp_step rfl (fun K hK => ?_)
      go_simp
      refine hK _ _ ?_
      exact ⟨_, _, _, _, _, _, _, _, _, _, _, _, _, _, _, _, _, _, _, _, _, _, _, _, _, _, _, _, _, _, _, _, _, _, rfl, lk F0, lk F1, lk F2, lk F3, lk F4, lk F5, lk F6, lk F7, lk F8, lk F9, lk F10, lk F11, lk F12, lk F13, lk F14, lk F15, lk F16, lk F17, lk F18, lk F19, lk F20, lk F21, lk F22, lk F23, lk F24, fun _ => rfl, lk F26, lk F27, lk F28, lk F29, lk F30, lk F31, lk F32, lk F33, F34, F35, F36, F37⟩
    · simp only [List.getElem?_toArray, List.getElem?_cons_zero, List.getElem?_cons_succ, Option.some.injEq] at ho
      subst ho
      obtain rfl := F25 (hd ⟨25, .data⟩ (by simp) rfl)
      obtain rfl := F22 (hd ⟨22, .guard⟩ (by simp) rfl)
      have h0 := F35; have h1 := F36; have h2 := F37
      refine wpOp_step rfl (fun K hK => ?_)
      go_simp
      refine hK _ _ ?_
      exact ⟨_, _, _, _, _, _, _, _, _, _, _, _, _, _, _, _, _, _, _, _, _, _, _, _, _, _, _, _, _, _, _, _, _, _, rfl, lk F0, lk F1, lk F2, lk F3, lk F4, lk F5, lk F6, lk F7, lk F8, lk F9, lk F10, lk F11, lk F12, lk F13, lk F14, lk F15, lk F16, lk F17, lk F18, lk F19, lk F20, lk F21, lk F22, lk F23, lk F24, lk F25, fun _ => rfl, lk F27, lk F28, lk F29, lk F30, lk F31, lk F32, lk F33, F34, F35, F36, F37⟩
    · simp only [List.getElem?_toArray, List.getElem?_cons_zero, List.getElem?_cons_succ, Option.some.injEq] at ho
      subst ho
      obtain rfl := F22 (hd ⟨22, .guard⟩ (by simp) rfl)
      refine wpOp_step rfl (fun K hK => ?_)
      go_simp
      refine hK _ _ ?_
      exact ⟨_, _, _, _, _, _, _, _, _, _, _, _, _, _, _, _, _, _, _, _, _, _, _, _, _, _, _, _, _, _, _, _, _, _, rfl, lk F0, lk F1, lk F2, lk F3, lk F4, lk F5, lk F6, lk F7, lk F8, lk F9, lk F10, lk F11, lk F12, lk F13, lk F14, lk F15, lk F16, lk F17, lk F18, lk F19, lk F20, lk F21, lk F22, lk F23, lk F24, lk F25, lk F26, fun _ => rfl, lk F28, lk F29, lk F30, lk F31, lk F32, lk F33, F34, F35, F36, F37⟩
    · simp only [List.getElem?_toArray, List.getElem?_cons_zero, List.getElem?_cons_succ, Option.some.injEq] at ho
      subst ho
      obtain rfl := F22 (hd ⟨22, .guard⟩ (by simp) rfl)
      refine wpOp_step rfl (fun K hK => ?_)
      go_simp
      refine hK _ _ ?_
      exact ⟨_, _, _, _, _, _, _, _, _, _, _, _, _, _, _, _, _, _, _, _, _, _, _, _, _, _, _, _, _, _, _, _, _, _, rfl, lk F0, lk F1, lk F2, lk F3, lk F4, lk F5, lk F6, lk F7, lk F8, lk F9, lk F10, lk F11, lk F12, lk F13, lk F14, lk F15, lk F16, lk F17, lk F18, lk F19, lk F20, lk F21, lk F22, lk F23, lk F24, lk F25, lk F26, lk F27, fun _ => rfl, lk F29, lk F30, lk F31, lk F32, lk F33, F34, F35, F36, F37⟩
    · simp only [List.getElem?_toArray, List.getElem?_cons_zero, List.getElem?_cons_succ, Option.some.injEq] at ho
      subst ho
      obtain rfl := F27 (hd ⟨27, .data⟩ (by simp) rfl)
      obtain rfl := F28 (hd ⟨28, .data⟩ (by simp) rfl)
      obtain rfl := F22 (hd ⟨22, .guard⟩ (by simp) rfl)
      refine wpOp_step rfl (fun K hK => ?_)
      go_simp
      refine hK _ _ ?_
      exact ⟨_, _, _, _, _, _, _, _, _, _, _, _, _, _, _, _, _, _, _, _, _, _, _, _, _, _, _, _, _, _, _, _, _, _, rfl, lk F0, lk F1, lk F2, lk F3, lk F4, lk F5, lk F6, lk F7, lk F8, lk F9, lk F10, lk F11, lk F12, lk F13, lk F14, lk F15, lk F16, lk F17, lk F18, lk F19, lk F20, lk F21, lk F22, lk F23, lk F24, lk F25, lk F26, lk F27, lk F28, fun _ => rfl, lk F30, lk F31, lk F32, lk F33, F34, F35, F36, F37⟩
    · simp only [List.getElem?_toArray, List.getElem?_cons_zero, List.getElem?_cons_succ, Option.some.injEq] at ho
      subst ho
      obtain rfl := F29 (hd ⟨29, .data⟩ (by simp) rfl)
      obtain rfl := F22 (hd ⟨22, .guard⟩ (by simp) rfl)
      have h0 := F35; have h1 := F36; have h2 := F37
      refine wpOp_step rfl (fun K hK => ?_)
      go_simp
      refine hK _ _ ?_
      exact ⟨_, _, _, _, _, _, _, _, _, _, _, _, _, _, _, _, _, _, _, _, _, _, _, _, _, _, _, _, _, _, _, _, _, _, rfl, lk F0, lk F1, lk F2, lk F3, lk F4, lk F5, lk F6, lk F7, lk F8, lk F9, lk F10, lk F11, lk F12, lk F13, lk F14, lk F15, lk F16, lk F17, lk F18, lk F19, lk F20, lk F21, lk F22, lk F23, lk F24, lk F25, lk F26, lk F27, lk F28, lk F29, fun _ => rfl, lk F31, lk F32, lk F33, F34, F35, F36, F37⟩
    · simp only [List.getElem?_toArray, List.getElem?_cons_zero, List.getElem?_cons_succ, Option.some.injEq] at ho
      subst ho
      obtain rfl := F30 (hd ⟨30, .data⟩ (by simp) rfl)
      obtain rfl := F22 (hd ⟨22, .guard⟩ (by simp) rfl)
      refine wpOp_step rfl (fun K hK => ?_)
      go_simp
      refine hK _ _ ?_
      exact ⟨_, _, _, _, _, _, _, _, _, _, _, _, _, _, _, _, _, _, _, _, _, _, _, _, _, _, _, _, _, _, _, _, _, _, rfl, lk F0, lk F1, lk F2, lk F3, lk F4, lk F5, lk F6, lk F7, lk F8, lk F9, lk F10, lk F11, lk F12, lk F13, lk F14, lk F15, lk F16, lk F17, lk F18, lk F19, lk F20, lk F21, lk F22, lk F23, lk F24, lk F25, lk F26, lk F27, lk F28, lk F29, lk F30, fun _ => rfl, lk F32, lk F33, F34, F35, F36, F37⟩
    · simp only [List.getElem?_toArray, List.getElem?_cons_zero, List.getElem?_cons_succ, Option.some.injEq] at ho
      subst ho
      obtain rfl := F26 (hd ⟨26, .data⟩ (by simp) rfl)
      obtain rfl := F31 (hd ⟨31, .data⟩ (by simp) rfl)
      obtain rfl := F22 (hd ⟨22, .guard⟩ (by simp) rfl)
      refine wpOp_step rfl (fun K hK => ?_)
      go_simp
      refine hK _ _ ?_
      exact ⟨_, _, _, _, _, _, _, _, _, _, _, _, _, _, _, _, _, _, _, _, _, _, _, _, _, _, _, _, _, _, _, _, _, _, rfl, lk F0, lk F1, lk F2, lk F3, lk F4, lk F5, lk F6, lk F7, lk F8, lk F9, lk F10, lk F11, lk F12, lk F13, lk F14, lk F15, lk F16, lk F17, lk F18, lk F19, lk F20, lk F21, lk F22, lk F23, lk F24, lk F25, lk F26, lk F27, lk F28, lk F29, lk F30, lk F31, fun _ => rfl, lk F33, F34, F35, F36, F37⟩
    · simp only [List.getElem?_toArray, List.getElem?_cons_zero, List.getElem?_cons_succ, Option.some.injEq] at ho
      subst ho
      obtain rfl := F22 (hd ⟨22, .data⟩ (by simp) rfl)
      obtain rfl := F32 (hd ⟨32, .data⟩ (by simp) rfl)
      refine wpOp_step rfl (fun K hK => ?_)
      go_simp
      refine hK _ _ ?_
      exact ⟨_, _, _, _, _, _, _, _, _, _, _, _, _, _, _, _, _, _, _, _, _, _, _, _, _, _, _, _, _, _, _, _, _, _, rfl, lk F0, lk F1, lk F2, lk F3, lk F4, lk F5, lk F6, lk F7, lk F8, lk F9, lk F10, lk F11, lk F12, lk F13, lk F14, lk F15, lk F16, lk F17, lk F18, lk F19, lk F20, lk F21, lk F22, lk F23, lk F24, lk F25, lk F26, lk F27, lk F28, lk F29, lk F30, lk F31, lk F32, fun _ => rfl, F34, F35, F36, F37⟩
  · intro listed A w hall hI
    unfold W6I at hI
    obtain ⟨s32, hI⟩ := hI
    obtain ⟨s33, hI⟩ := hI
    obtain ⟨s34, hI⟩ := hI
    obtain ⟨s35, hI⟩ := hI
    obtain ⟨s36, hI⟩ := hI
    obtain ⟨s37, hI⟩ := hI
    obtain ⟨s38, hI⟩ := hI
    obtain ⟨s39, hI⟩ := hI
    obtain ⟨s40, hI⟩ := hI
    obtain ⟨s41, hI⟩ := hI
    obtain ⟨s42, hI⟩ := hI
    obtain ⟨s43, hI⟩ := hI
    obtain ⟨s44, hI⟩ := hI
    obtain ⟨s45, hI⟩ := hI
    obtain ⟨s46, hI⟩ := hI
    obtain ⟨s47, hI⟩ := hI
    obtain ⟨s48, hI⟩ := hI
    obtain ⟨s49, hI⟩ := hI
    obtain ⟨s50, hI⟩ := hI
    obtain ⟨s51, hI⟩ := hI
    obtain ⟨s52, hI⟩ := hI
    obtain ⟨s53, hI⟩ := hI
    obtain ⟨s54, hI⟩ := hI
    obtain ⟨s55, hI⟩ := hI
    obtain ⟨s56, hI⟩ := hI
    obtain ⟨s57, hI⟩ := hI
    obtain ⟨s58, hI⟩ := hI
    obtain ⟨s59, hI⟩ := hI
    obtain ⟨s60, hI⟩ := hI
    obtain ⟨s61, hI⟩ := hI
    obtain ⟨s62, hI⟩ := hI
    obtain ⟨s63, hI⟩ := hI
    obtain ⟨s64, hI⟩ := hI
    obtain ⟨s65, hI⟩ := hI
    obtain ⟨rfl, hI⟩ := hI
    obtain ⟨F0, hI⟩ := hI
    obtain ⟨F1, hI⟩ := hI
    obtain ⟨F2, hI⟩ := hI
    obtain ⟨F3, hI⟩ := hI
    obtain ⟨F4, hI⟩ := hI
    obtain ⟨F5, hI⟩ := hI
    obtain ⟨F6, hI⟩ := hI
    obtain ⟨F7, hI⟩ := hI
    obtain ⟨F8, hI⟩ := hI
    obtain ⟨F9, hI⟩ := hI
    obtain ⟨F10, hI⟩ := hI
    obtain ⟨F11, hI⟩ := hI
    obtain ⟨F12, hI⟩ := hI
    obtain ⟨F13, hI⟩ := hI
    obtain ⟨F14, hI⟩ := hI
    obtain ⟨F15, hI⟩ := hI
    obtain ⟨F16, hI⟩ := hI
    obtain ⟨F17, hI⟩ := hI
    obtain ⟨F18, hI⟩ := hI
    obtain ⟨F19, hI⟩ := hI
    obtain ⟨F20, hI⟩ := hI
    obtain ⟨F21, hI⟩ := hI
    obtain ⟨F22, hI⟩ := hI
    obtain ⟨F23, hI⟩ := hI
    obtain ⟨F24, hI⟩ := hI
    obtain ⟨F25, hI⟩ := hI
    obtain ⟨F26, hI⟩ := hI
    obtain ⟨F27, hI⟩ := hI
    obtain ⟨F28, hI⟩ := hI
    obtain ⟨F29, hI⟩ := hI
    obtain ⟨F30, hI⟩ := hI
    obtain ⟨F31, hI⟩ := hI
    obtain ⟨F32, hI⟩ := hI
    obtain ⟨F33, hI⟩ := hI
    obtain ⟨F34, hI⟩ := hI
    obtain ⟨F35, hI⟩ := hI
    obtain ⟨F36, hI⟩ := hI
    have F37 := hI; clear hI
    obtain rfl := F0 (hall 0 (by decide))
    obtain rfl := F1 (hall 1 (by decide))
    obtain rfl := F2 (hall 2 (by decide))
    obtain rfl := F3 (hall 3 (by decide))
    obtain rfl := F4 (hall 4 (by decide))
    obtain rfl := F5 (hall 5 (by decide))
    obtain rfl := F6 (hall 6 (by decide))
    obtain rfl := F7 (hall 7 (by decide))
    obtain rfl := F8 (hall 8 (by decide))
    obtain rfl := F9 (hall 9 (by decide))
    obtain rfl := F10 (hall 10 (by decide))
    obtain rfl := F11 (hall 11 (by decide))
    obtain rfl := F12 (hall 12 (by decide))
    obtain rfl := F13 (hall 13 (by decide))
    obtain rfl := F14 (hall 14 (by decide))
    obtain rfl := F15 (hall 15 (by decide))
    obtain rfl := F16 (hall 16 (by decide))
    obtain rfl := F17 (hall 17 (by decide))
    obtain rfl := F18 (hall 18 (by decide))
    obtain rfl := F19 (hall 19 (by decide))
    obtain rfl := F20 (hall 20 (by decide))
    obtain rfl := F21 (hall 21 (by decide))
    obtain rfl := F22 (hall 22 (by decide))
    obtain rfl := F23 (hall 23 (by decide))
    obtain rfl := F24 (hall 24 (by decide))
    obtain rfl := F25 (hall 25 (by decide))
    obtain rfl := F26 (hall 26 (by decide))
    obtain rfl := F27 (hall 27 (by decide))
    obtain rfl := F28 (hall 28 (by decide))
    obtain rfl := F29 (hall 29 (by decide))
    obtain rfl := F30 (hall 30 (by decide))
    obtain rfl := F31 (hall 31 (by decide))
    obtain rfl := F32 (hall 32 (by decide))
    obtain rfl := F33 (hall 33 (by decide))
    have HB := F34
    have Q0 := F35
    have Q1 := F36
    have Q2 := F37
    exact hQ _ trivial HB
def TI (w0 : World) (ad : Addr) (n c j : Nat) (x : List UInt8) (S : ByteArray) (m lc g a b : Nat) (c1 c2 c4 c5 c6 c8 c10 c11 c12 c13 c14 c15 c16 c17 c18 c19 c20 c21 c22 c23 c24 c25 c26 c27 c28 c29 c30 c31 c32 c33 c34 c35 c36 c37 c38 c39 c40 c41 c42 c43 c44 c45 c46 c47 c48 c49 c50 c51 c52 c53 c54 c55 c56 c57 c58 c59 c60 c61 c62 c63 c64 c65 c66 c67 c68 c69 c70 c71 c72 c73 c74 c75 c76 c77 c78 c79 c80 c81 c82 c83 c84 c85 c86 c87 c88 c89 c90 c91 c92 : Value) (listed : Array Bool) (A : Act) (w : World) : Prop := ∃ (s93 s94 s95 s96 s97 s98 s99 s100 s101 s102 s103 s104 s105 s106 s107 s108 s109 : Value), A = { tmps := #[.slice (some ad) n c, c1, c2, .string S, c4, c5, c6, .slice (some ⟨g, 0, none⟩) m lc, c8, .int .i64 (j : Nat), c10, c11, c12, c13, c14, c15, c16, c17, c18, c19, c20, c21, c22, c23, c24, c25, c26, c27, c28, c29, c30, c31, c32, c33, c34, c35, c36, c37, c38, c39, c40, c41, c42, c43, c44, c45, c46, c47, c48, c49, c50, c51, c52, c53, c54, c55, c56, c57, c58, c59, c60, c61, c62, c63, c64, c65, c66, c67, c68, c69, c70, c71, c72, c73, c74, c75, c76, c77, c78, c79, c80, c81, c82, c83, c84, c85, c86, c87, c88, c89, c90, c91, c92, s93, s94, s95, s96, s97, s98, s99, s100, s101, s102, s103, s104, s105, s106, s107, s108, s109], defers := [] } ∧
  (listed.getD 0 false = true → s93 = .string S) ∧
  (listed.getD 1 false = true → s94 = .slice (some ⟨g, 0, none⟩) m lc) ∧
  (listed.getD 2 false = true → s95 = .int .i64 (j : Nat)) ∧
  (listed.getD 3 false = true → s96 = .pointer (some ⟨g, j * 4, none⟩)) ∧
  (listed.getD 4 false = true → s97 = .pointer (some ⟨g, j * 4 + 2, none⟩)) ∧
  (listed.getD 5 false = true → s98 = .int .i64 (a : Nat)) ∧
  (listed.getD 6 false = true → s99 = .slice (some ⟨g, 0, none⟩) m lc) ∧
  (listed.getD 7 false = true → s100 = .int .i64 (j : Nat)) ∧
  (listed.getD 8 false = true → s101 = .pointer (some ⟨g, j * 4, none⟩)) ∧
  (listed.getD 9 false = true → s102 = .pointer (some ⟨g, j * 4 + 3, none⟩)) ∧
  (listed.getD 10 false = true → s103 = .int .i64 (b : Nat)) ∧
  (listed.getD 11 false = true → s104 = .string (ba' x)) ∧
  (listed.getD 12 false = true → s105 = .slice (some ad) n c) ∧
  (listed.getD 13 false = true → s106 = .int .i64 (j : Nat)) ∧
  (listed.getD 14 false = true → s107 = .pointer (some (ad.add j))) ∧
  (listed.getD 15 false = true → s108 = .string (ba' x)) ∧
  (listed.getD 16 false = true → s109 = .bool false) ∧
  Below w0.heap.size w0 w ∧
  w.cell? (ad.add j) = some (.string (ba' x)) ∧
  w.cell? ⟨g, j * 4 + 2, none⟩ = some (.int .i64 (a : Nat)) ∧
  w.cell? ⟨g, j * 4 + 3, none⟩ = some (.int .i64 (b : Nat))
set_option maxRecDepth 100000 in
set_option maxHeartbeats 16000000 in
theorem T_region (ad : Addr) (n c j : Nat) (x : List UInt8) (S : ByteArray) (m lc g a b : Nat) (x93 x94 x95 x96 x97 x98 x99 x100 x101 x102 x103 x104 x105 x106 x107 x108 x109 : Value) (c1 c2 c4 c5 c6 c8 c10 c11 c12 c13 c14 c15 c16 c17 c18 c19 c20 c21 c22 c23 c24 c25 c26 c27 c28 c29 c30 c31 c32 c33 c34 c35 c36 c37 c38 c39 c40 c41 c42 c43 c44 c45 c46 c47 c48 c49 c50 c51 c52 c53 c54 c55 c56 c57 c58 c59 c60 c61 c62 c63 c64 c65 c66 c67 c68 c69 c70 c71 c72 c73 c74 c75 c76 c77 c78 c79 c80 c81 c82 c83 c84 c85 c86 c87 c88 c89 c90 c91 c92 : Value) (w0 W : World) (Q : Exit → Act → World → Prop) (hb0 : Below w0.heap.size w0 W) (C0 : W.cell? (ad.add j) = some (.string (ba' x))) (C1 : W.cell? ⟨g, j * 4 + 2, none⟩ = some (.int .i64 (a : Nat))) (C2 : W.cell? ⟨g, j * 4 + 3, none⟩ = some (.int .i64 (b : Nat))) (hjn : j < n) (hjm : j < m) (hab : a ≤ b) (hbS : b ≤ S.size) (hT : S.extract a b = ba' x)
    (hQ : ∀ (w : World) , (True) → Below w0.heap.size w0 w → Q .normal { tmps := #[.slice (some ad) n c, c1, c2, .string S, c4, c5, c6, .slice (some ⟨g, 0, none⟩) m lc, c8, .int .i64 (j : Nat), c10, c11, c12, c13, c14, c15, c16, c17, c18, c19, c20, c21, c22, c23, c24, c25, c26, c27, c28, c29, c30, c31, c32, c33, c34, c35, c36, c37, c38, c39, c40, c41, c42, c43, c44, c45, c46, c47, c48, c49, c50, c51, c52, c53, c54, c55, c56, c57, c58, c59, c60, c61, c62, c63, c64, c65, c66, c67, c68, c69, c70, c71, c72, c73, c74, c75, c76, c77, c78, c79, c80, c81, c82, c83, c84, c85, c86, c87, c88, c89, c90, c91, c92, .string S, .slice (some ⟨g, 0, none⟩) m lc, .int .i64 (j : Nat), .pointer (some ⟨g, j * 4, none⟩), .pointer (some ⟨g, j * 4 + 2, none⟩), .int .i64 (a : Nat), .slice (some ⟨g, 0, none⟩) m lc, .int .i64 (j : Nat), .pointer (some ⟨g, j * 4, none⟩), .pointer (some ⟨g, j * 4 + 3, none⟩), .int .i64 (b : Nat), .string (ba' x), .slice (some ad) n c, .int .i64 (j : Nat), .pointer (some (ad.add j)), .string (ba' x), .bool false], defers := [] } w) :
    Code.wp Tryz.prog ((Tryz.f5.body.bind (regionOf 17)).getD .skip) Q { tmps := #[.slice (some ad) n c, c1, c2, .string S, c4, c5, c6, .slice (some ⟨g, 0, none⟩) m lc, c8, .int .i64 (j : Nat), c10, c11, c12, c13, c14, c15, c16, c17, c18, c19, c20, c21, c22, c23, c24, c25, c26, c27, c28, c29, c30, c31, c32, c33, c34, c35, c36, c37, c38, c39, c40, c41, c42, c43, c44, c45, c46, c47, c48, c49, c50, c51, c52, c53, c54, c55, c56, c57, c58, c59, c60, c61, c62, c63, c64, c65, c66, c67, c68, c69, c70, c71, c72, c73, c74, c75, c76, c77, c78, c79, c80, c81, c82, c83, c84, c85, c86, c87, c88, c89, c90, c91, c92, x93, x94, x95, x96, x97, x98, x99, x100, x101, x102, x103, x104, x105, x106, x107, x108, x109], defers := [] } W := by
  conv => arg 2; whnf
  refine wp_region_inv (by kernel_rfl) (by kernel_rfl) (TI w0 ad n c j x S m lc g a b c1 c2 c4 c5 c6 c8 c10 c11 c12 c13 c14 c15 c16 c17 c18 c19 c20 c21 c22 c23 c24 c25 c26 c27 c28 c29 c30 c31 c32 c33 c34 c35 c36 c37 c38 c39 c40 c41 c42 c43 c44 c45 c46 c47 c48 c49 c50 c51 c52 c53 c54 c55 c56 c57 c58 c59 c60 c61 c62 c63 c64 c65 c66 c67 c68 c69 c70 c71 c72 c73 c74 c75 c76 c77 c78 c79 c80 c81 c82 c83 c84 c85 c86 c87 c88 c89 c90 c91 c92) ?_ ?_ ?_
  · exact ⟨_, _, _, _, _, _, _, _, _, _, _, _, _, _, _, _, _, rfl, fun h => absurd h l0, fun h => absurd h l0, fun h => absurd h l0, fun h => absurd h l0, fun h => absurd h l0, fun h => absurd h l0, fun h => absurd h l0, fun h => absurd h l0, fun h => absurd h l0, fun h => absurd h l0, fun h => absurd h l0, fun h => absurd h l0, fun h => absurd h l0, fun h => absurd h l0, fun h => absurd h l0, fun h => absurd h l0, fun h => absurd h l0, bdr hb0, C0, C1, C2⟩
  · intro i o listed A w hi ho hd hn hI
    unfold TI at hI
    obtain ⟨s93, hI⟩ := hI
    obtain ⟨s94, hI⟩ := hI
    obtain ⟨s95, hI⟩ := hI
    obtain ⟨s96, hI⟩ := hI
    obtain ⟨s97, hI⟩ := hI
    obtain ⟨s98, hI⟩ := hI
    obtain ⟨s99, hI⟩ := hI
    obtain ⟨s100, hI⟩ := hI
    obtain ⟨s101, hI⟩ := hI
    obtain ⟨s102, hI⟩ := hI
    obtain ⟨s103, hI⟩ := hI
    obtain ⟨s104, hI⟩ := hI
    obtain ⟨s105, hI⟩ := hI
    obtain ⟨s106, hI⟩ := hI
    obtain ⟨s107, hI⟩ := hI
    obtain ⟨s108, hI⟩ := hI
    obtain ⟨s109, hI⟩ := hI
    obtain ⟨rfl, hI⟩ := hI
    obtain ⟨F0, hI⟩ := hI
    obtain ⟨F1, hI⟩ := hI
    obtain ⟨F2, hI⟩ := hI
    obtain ⟨F3, hI⟩ := hI
    obtain ⟨F4, hI⟩ := hI
    obtain ⟨F5, hI⟩ := hI
    obtain ⟨F6, hI⟩ := hI
    obtain ⟨F7, hI⟩ := hI
    obtain ⟨F8, hI⟩ := hI
    obtain ⟨F9, hI⟩ := hI
    obtain ⟨F10, hI⟩ := hI
    obtain ⟨F11, hI⟩ := hI
    obtain ⟨F12, hI⟩ := hI
    obtain ⟨F13, hI⟩ := hI
    obtain ⟨F14, hI⟩ := hI
    obtain ⟨F15, hI⟩ := hI
    obtain ⟨F16, hI⟩ := hI
    obtain ⟨F17, hI⟩ := hI
    obtain ⟨F18, hI⟩ := hI
    obtain ⟨F19, hI⟩ := hI
    have F20 := hI; clear hI
    have hi' : i < 17 := hi
    clear hi
    rcases (by omega : i = 0 ∨ i = 1 ∨ i = 2 ∨ i = 3 ∨ i = 4 ∨ i = 5 ∨ i = 6 ∨ i = 7 ∨ i = 8 ∨ i = 9 ∨ i = 10 ∨ i = 11 ∨ i = 12 ∨ i = 13 ∨ i = 14 ∨ i = 15 ∨ i = 16) with rfl | rfl | rfl | rfl | rfl | rfl | rfl | rfl | rfl | rfl | rfl | rfl | rfl | rfl | rfl | rfl | rfl
    · simp only [List.getElem?_toArray, List.getElem?_cons_zero, Option.some.injEq] at ho
      subst ho
      refine wpOp_step rfl (fun K hK => ?_)
      go_simp
      refine hK _ _ ?_
      exact ⟨_, _, _, _, _, _, _, _, _, _, _, _, _, _, _, _, _, rfl, fun _ => rfl, lk F1, lk F2, lk F3, lk F4, lk F5, lk F6, lk F7, lk F8, lk F9, lk F10, lk F11, lk F12, lk F13, lk F14, lk F15, lk F16, F17, F18, F19, F20⟩
    · simp only [List.getElem?_toArray, List.getElem?_cons_zero, List.getElem?_cons_succ, Option.some.injEq] at ho
      subst ho
      refine wpOp_step rfl (fun K hK => ?_)
      go_simp
      refine hK _ _ ?_
      exact ⟨_, _, _, _, _, _, _, _, _, _, _, _, _, _, _, _, _, rfl, lk F0, fun _ => rfl, lk F2, lk F3, lk F4, lk F5, lk F6, lk F7, lk F8, lk F9, lk F10, lk F11, lk F12, lk F13, lk F14, lk F15, lk F16, F17, F18, F19, F20⟩
    · simp only [List.getElem?_toArray, List.getElem?_cons_zero, List.getElem?_cons_succ, Option.some.injEq] at ho
      subst ho
      refine wpOp_step rfl (fun K hK => ?_)
      go_simp
      refine hK _ _ ?_
      exact ⟨_, _, _, _, _, _, _, _, _, _, _, _, _, _, _, _, _, rfl, lk F0, lk F1, fun _ => rfl, lk F3, lk F4, lk F5, lk F6, lk F7, lk F8, lk F9, lk F10, lk F11, lk F12, lk F13, lk F14, lk F15, lk F16, F17, F18, F19, F20⟩
    · simp only [List.getElem?_toArray, List.getElem?_cons_zero, List.getElem?_cons_succ, Option.some.injEq] at ho
      subst ho
      obtain rfl := F1 (hd ⟨1, .data⟩ (by simp) rfl)
      obtain rfl := F2 (hd ⟨2, .data⟩ (by simp) rfl)
      refine wpOp_step rfl (fun K hK => ?_)
      go_simp
      refine hK _ _ ?_
      exact ⟨_, _, _, _, _, _, _, _, _, _, _, _, _, _, _, _, _, rfl, lk F0, lk F1, lk F2, fun _ => rfl, lk F4, lk F5, lk F6, lk F7, lk F8, lk F9, lk F10, lk F11, lk F12, lk F13, lk F14, lk F15, lk F16, F17, F18, F19, F20⟩
    · simp only [List.getElem?_toArray, List.getElem?_cons_zero, List.getElem?_cons_succ, Option.some.injEq] at ho
      subst ho
      obtain rfl := F3 (hd ⟨3, .data⟩ (by simp) rfl)
      refine wpOp_step rfl (fun K hK => ?_)
      go_simp
      refine hK _ _ ?_
      exact ⟨_, _, _, _, _, _, _, _, _, _, _, _, _, _, _, _, _, rfl, lk F0, lk F1, lk F2, lk F3, fun _ => rfl, lk F5, lk F6, lk F7, lk F8, lk F9, lk F10, lk F11, lk F12, lk F13, lk F14, lk F15, lk F16, F17, F18, F19, F20⟩
    · simp only [List.getElem?_toArray, List.getElem?_cons_zero, List.getElem?_cons_succ, Option.some.injEq] at ho
      subst ho
      obtain rfl := F4 (hd ⟨4, .data⟩ (by simp) rfl)
      have h0 := F18; have h1 := F19; have h2 := F20
      refine wpOp_step rfl (fun K hK => ?_)
      go_simp
      refine hK _ _ ?_
      exact ⟨_, _, _, _, _, _, _, _, _, _, _, _, _, _, _, _, _, rfl, lk F0, lk F1, lk F2, lk F3, lk F4, fun _ => rfl, lk F6, lk F7, lk F8, lk F9, lk F10, lk F11, lk F12, lk F13, lk F14, lk F15, lk F16, F17, F18, F19, F20⟩
    · simp only [List.getElem?_toArray, List.getElem?_cons_zero, List.getElem?_cons_succ, Option.some.injEq] at ho
      subst ho
      refine wpOp_step rfl (fun K hK => ?_)
      go_simp
      refine hK _ _ ?_
      exact ⟨_, _, _, _, _, _, _, _, _, _, _, _, _, _, _, _, _, rfl, lk F0, lk F1, lk F2, lk F3, lk F4, lk F5, fun _ => rfl, lk F7, lk F8, lk F9, lk F10, lk F11, lk F12, lk F13, lk F14, lk F15, lk F16, F17, F18, F19, F20⟩
    · simp only [List.getElem?_toArray, List.getElem?_cons_zero, List.getElem?_cons_succ, Option.some.injEq] at ho
      subst ho
      refine wpOp_step rfl (fun K hK => ?_)
      go_simp
      refine hK _ _ ?_
      exact ⟨_, _, _, _, _, _, _, _, _, _, _, _, _, _, _, _, _, rfl, lk F0, lk F1, lk F2, lk F3, lk F4, lk F5, lk F6, fun _ => rfl, lk F8, lk F9, lk F10, lk F11, lk F12, lk F13, lk F14, lk F15, lk F16, F17, F18, F19, F20⟩
    · simp only [List.getElem?_toArray, List.getElem?_cons_zero, List.getElem?_cons_succ, Option.some.injEq] at ho
      subst ho
      obtain rfl := F6 (hd ⟨6, .data⟩ (by simp) rfl)
      obtain rfl := F7 (hd ⟨7, .data⟩ (by simp) rfl)
      refine wpOp_step rfl (fun K hK => ?_)
      go_simp
      refine hK _ _ ?_
      exact ⟨_, _, _, _, _, _, _, _, _, _, _, _, _, _, _, _, _, rfl, lk F0, lk F1, lk F2, lk F3, lk F4, lk F5, lk F6, lk F7, fun _ => rfl, lk F9, lk F10, lk F11, lk F12, lk F13, lk F14, lk F15, lk F16, F17, F18, F19, F20⟩
    · simp only [List.getElem?_toArray, List.getElem?_cons_zero, List.getElem?_cons_succ, Option.some.injEq] at ho
      subst ho
      obtain rfl := F8 (hd ⟨8, .data⟩ (by simp) rfl)
      refine wpOp_step rfl (fun K hK => ?_)
      go_simp
      refine hK _ _ ?_
      exact ⟨_, _, _, _, _, _, _, _, _, _, _, _, _, _, _, _, _, rfl, lk F0, lk F1, lk F2, lk F3, lk F4, lk F5, lk F6, lk F7, lk F8, fun _ => rfl, lk F10, lk F11, lk F12, lk F13, lk F14, lk F15, lk F16, F17, F18, F19, F20⟩
    · simp only [List.getElem?_toArray, List.getElem?_cons_zero, List.getElem?_cons_succ, Option.some.injEq] at ho
      subst ho
      obtain rfl := F9 (hd ⟨9, .data⟩ (by simp) rfl)
      have h0 := F18; have h1 := F19; have h2 := F20
      refine wpOp_step rfl (fun K hK => ?_)
      go_simp
      refine hK _ _ ?_
      exact ⟨_, _, _, _, _, _, _, _, _, _, _, _, _, _, _, _, _, rfl, lk F0, lk F1, lk F2, lk F3, lk F4, lk F5, lk F6, lk F7, lk F8, lk F9, fun _ => rfl, lk F11, lk F12, lk F13, lk F14, lk F15, lk F16, F17, F18, F19, F20⟩
    · simp only [List.getElem?_toArray, List.getElem?_cons_zero, List.getElem?_cons_succ, Option.some.injEq] at ho
      subst ho
      obtain rfl := F0 (hd ⟨0, .data⟩ (by simp) rfl)
      obtain rfl := F5 (hd ⟨5, .data⟩ (by simp) rfl)
      obtain rfl := F10 (hd ⟨10, .data⟩ (by simp) rfl)
      refine wpOp_step rfl (fun K hK => ?_)
      go_simp
      refine hK _ _ ?_
      exact ⟨_, _, _, _, _, _, _, _, _, _, _, _, _, _, _, _, _, rfl, lk F0, lk F1, lk F2, lk F3, lk F4, lk F5, lk F6, lk F7, lk F8, lk F9, lk F10, fun _ => rfl, lk F12, lk F13, lk F14, lk F15, lk F16, F17, F18, F19, F20⟩
    · simp only [List.getElem?_toArray, List.getElem?_cons_zero, List.getElem?_cons_succ, Option.some.injEq] at ho
      subst ho
      refine wpOp_step rfl (fun K hK => ?_)
      go_simp
      refine hK _ _ ?_
      exact ⟨_, _, _, _, _, _, _, _, _, _, _, _, _, _, _, _, _, rfl, lk F0, lk F1, lk F2, lk F3, lk F4, lk F5, lk F6, lk F7, lk F8, lk F9, lk F10, lk F11, fun _ => rfl, lk F13, lk F14, lk F15, lk F16, F17, F18, F19, F20⟩
    · simp only [List.getElem?_toArray, List.getElem?_cons_zero, List.getElem?_cons_succ, Option.some.injEq] at ho
      subst ho
      refine wpOp_step rfl (fun K hK => ?_)
      go_simp
      refine hK _ _ ?_
      exact ⟨_, _, _, _, _, _, _, _, _, _, _, _, _, _, _, _, _, rfl, lk F0, lk F1, lk F2, lk F3, lk F4, lk F5, lk F6, lk F7, lk F8, lk F9, lk F10, lk F11, lk F12, fun _ => rfl, lk F14, lk F15, lk F16, F17, F18, F19, F20⟩
    · simp only [List.getElem?_toArray, List.getElem?_cons_zero, List.getElem?_cons_succ, Option.some.injEq] at ho
      subst ho
      obtain rfl := F12 (hd ⟨12, .data⟩ (by simp) rfl)
      obtain rfl := F13 (hd ⟨13, .data⟩ (by simp) rfl)
      refine wpOp_step rfl (fun K hK => ?_)
      go_simp
      refine hK _ _ ?_
      exact ⟨_, _, _, _, _, _, _, _, _, _, _, _, _, _, _, _, _, rfl, lk F0, lk F1, lk F2, lk F3, lk F4, lk F5, lk F6, lk F7, lk F8, lk F9, lk F10, lk F11, lk F12, lk F13, fun _ => rfl, lk F15, lk F16, F17, F18, F19, F20⟩
    · simp only [List.getElem?_toArray, List.getElem?_cons_zero, List.getElem?_cons_succ, Option.some.injEq] at ho
      subst ho
      obtain rfl := F14 (hd ⟨14, .data⟩ (by simp) rfl)
      have h0 := F18; have h1 := F19; have h2 := F20
      refine wpOp_step rfl (fun K hK => ?_)
      go_simp
      refine hK _ _ ?_
      exact ⟨_, _, _, _, _, _, _, _, _, _, _, _, _, _, _, _, _, rfl, lk F0, lk F1, lk F2, lk F3, lk F4, lk F5, lk F6, lk F7, lk F8, lk F9, lk F10, lk F11, lk F12, lk F13, lk F14, fun _ => rfl, lk F16, F17, F18, F19, F20⟩
    · simp only [List.getElem?_toArray, List.getElem?_cons_zero, List.getElem?_cons_succ, Option.some.injEq] at ho
      subst ho
      obtain rfl := F11 (hd ⟨11, .data⟩ (by simp) rfl)
      obtain rfl := F15 (hd ⟨15, .data⟩ (by simp) rfl)
      refine wpOp_step rfl (fun K hK => ?_)
      go_simp
      refine hK _ _ ?_
      exact ⟨_, _, _, _, _, _, _, _, _, _, _, _, _, _, _, _, _, rfl, lk F0, lk F1, lk F2, lk F3, lk F4, lk F5, lk F6, lk F7, lk F8, lk F9, lk F10, lk F11, lk F12, lk F13, lk F14, lk F15, fun _ => rfl, F17, F18, F19, F20⟩
  · intro listed A w hall hI
    unfold TI at hI
    obtain ⟨s93, hI⟩ := hI
    obtain ⟨s94, hI⟩ := hI
    obtain ⟨s95, hI⟩ := hI
    obtain ⟨s96, hI⟩ := hI
    obtain ⟨s97, hI⟩ := hI
    obtain ⟨s98, hI⟩ := hI
    obtain ⟨s99, hI⟩ := hI
    obtain ⟨s100, hI⟩ := hI
    obtain ⟨s101, hI⟩ := hI
    obtain ⟨s102, hI⟩ := hI
    obtain ⟨s103, hI⟩ := hI
    obtain ⟨s104, hI⟩ := hI
    obtain ⟨s105, hI⟩ := hI
    obtain ⟨s106, hI⟩ := hI
    obtain ⟨s107, hI⟩ := hI
    obtain ⟨s108, hI⟩ := hI
    obtain ⟨s109, hI⟩ := hI
    obtain ⟨rfl, hI⟩ := hI
    obtain ⟨F0, hI⟩ := hI
    obtain ⟨F1, hI⟩ := hI
    obtain ⟨F2, hI⟩ := hI
    obtain ⟨F3, hI⟩ := hI
    obtain ⟨F4, hI⟩ := hI
    obtain ⟨F5, hI⟩ := hI
    obtain ⟨F6, hI⟩ := hI
    obtain ⟨F7, hI⟩ := hI
    obtain ⟨F8, hI⟩ := hI
    obtain ⟨F9, hI⟩ := hI
    obtain ⟨F10, hI⟩ := hI
    obtain ⟨F11, hI⟩ := hI
    obtain ⟨F12, hI⟩ := hI
    obtain ⟨F13, hI⟩ := hI
    obtain ⟨F14, hI⟩ := hI
    obtain ⟨F15, hI⟩ := hI
    obtain ⟨F16, hI⟩ := hI
    obtain ⟨F17, hI⟩ := hI
    obtain ⟨F18, hI⟩ := hI
    obtain ⟨F19, hI⟩ := hI
    have F20 := hI; clear hI
    obtain rfl := F0 (hall 0 (by decide))
    obtain rfl := F1 (hall 1 (by decide))
    obtain rfl := F2 (hall 2 (by decide))
    obtain rfl := F3 (hall 3 (by decide))
    obtain rfl := F4 (hall 4 (by decide))
    obtain rfl := F5 (hall 5 (by decide))
    obtain rfl := F6 (hall 6 (by decide))
    obtain rfl := F7 (hall 7 (by decide))
    obtain rfl := F8 (hall 8 (by decide))
    obtain rfl := F9 (hall 9 (by decide))
    obtain rfl := F10 (hall 10 (by decide))
    obtain rfl := F11 (hall 11 (by decide))
    obtain rfl := F12 (hall 12 (by decide))
    obtain rfl := F13 (hall 13 (by decide))
    obtain rfl := F14 (hall 14 (by decide))
    obtain rfl := F15 (hall 15 (by decide))
    obtain rfl := F16 (hall 16 (by decide))
    have HB := F17
    have Q0 := F18
    have Q1 := F19
    have Q2 := F20
    exact hQ _ trivial HB
end Go.Proofs.YtolkfhiominjbaaGreatDoor
