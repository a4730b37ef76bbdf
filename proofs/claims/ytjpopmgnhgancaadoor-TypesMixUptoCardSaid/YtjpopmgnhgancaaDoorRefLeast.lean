/- The reference: the least kind in which two lie; a kind with counts. No condition beyond what the theorems state. -/
import Derived.Test.YtjpopmgnhgancaaDoorRefKinds
namespace Go.Proofs.YtjpopmgnhgancaaDoor
open Go.RowKit Go.Lib
set_option maxRecDepth 100000
def LeI (w0 : World) (ga gb gr k ai ao bi bo ci co : Nat) (an bn cn : ByteArray) (d : Bool) (c0 c1 c4 c7 c8 c9 c10 c11 c12 c13 c14 c15 c16 c17 c18 c19 c20 c21 c22 c23 c24 c25 c26 c27 c28 c29 c44 c45 c46 c47 c48 : Value) (listed : Array Bool) (A : Act) (w : World) : Prop := ∃ (s30 s31 s32 s33 s34 s35 s36 s37 s38 s39 s40 s41 s42 s43 : Value), A = { tmps := #[c0, c1, .pointer (some ⟨ga, 0, none⟩), .pointer (some ⟨gb, 0, none⟩), c4, .slice (some ⟨gr, 0, none⟩) 6 6, .int .i64 (k : Nat), c7, c8, c9, c10, c11, c12, c13, c14, c15, c16, c17, c18, c19, c20, c21, c22, c23, c24, c25, c26, c27, c28, c29, s30, s31, s32, s33, s34, s35, s36, s37, s38, s39, s40, s41, s42, s43, c44, c45, c46, c47, c48], defers := [] } ∧
  (listed.getD 0 false = true → s30 = .agg #[.int .i64 (ai : Nat), .string an, .int .i64 (ao : Nat)]) ∧
  (listed.getD 1 false = true → s31 = .slice (some ⟨gr, 0, none⟩) 6 6) ∧
  (listed.getD 2 false = true → s32 = .int .i64 (k : Nat)) ∧
  (listed.getD 3 false = true → s33 = .pointer (some ⟨gr, k * 3, none⟩)) ∧
  (listed.getD 4 false = true → s34 = .agg #[.int .i64 (ci : Nat), .string cn, .int .i64 (co : Nat)]) ∧
  (listed.getD 5 false = true → s35 = .bool true) ∧
  (listed.getD 6 false = true → s36 = .bool true) ∧
  (listed.getD 7 false = true → s37 = .agg #[.int .i64 (bi : Nat), .string bn, .int .i64 (bo : Nat)]) ∧
  (listed.getD 8 false = true → s38 = .slice (some ⟨gr, 0, none⟩) 6 6) ∧
  (listed.getD 9 false = true → s39 = .int .i64 (k : Nat)) ∧
  (listed.getD 10 false = true → s40 = .pointer (some ⟨gr, k * 3, none⟩)) ∧
  (listed.getD 11 false = true → s41 = .agg #[.int .i64 (ci : Nat), .string cn, .int .i64 (co : Nat)]) ∧
  (listed.getD 12 false = true → s42 = .bool d) ∧
  (listed.getD 13 false = true → s43 = .bool d) ∧
  Below w0.heap.size w0 w ∧
  w.cell? ⟨ga, 0, none⟩ = some (.int .i64 (ai : Nat)) ∧
  w.cell? ⟨ga, 1, none⟩ = some (.string an) ∧
  w.cell? ⟨ga, 2, none⟩ = some (.int .i64 (ao : Nat)) ∧
  w.cell? ⟨gb, 0, none⟩ = some (.int .i64 (bi : Nat)) ∧
  w.cell? ⟨gb, 1, none⟩ = some (.string bn) ∧
  w.cell? ⟨gb, 2, none⟩ = some (.int .i64 (bo : Nat)) ∧
  w.cell? ⟨gr, k * 3, none⟩ = some (.int .i64 (ci : Nat)) ∧
  w.cell? ⟨gr, k * 3 + 1, none⟩ = some (.string cn) ∧
  w.cell? ⟨gr, k * 3 + 2, none⟩ = some (.int .i64 (co : Nat))
set_option maxRecDepth 100000 in
set_option maxHeartbeats 16000000 in
theorem Le_region (ga gb gr k ai ao bi bo ci co : Nat) (an bn cn : ByteArray) (d : Bool) {x30 x31 x32 x33 x34 x35 x36 x37 x38 x39 x40 x41 x42 x43 : Value} {c0 c1 c4 c7 c8 c9 c10 c11 c12 c13 c14 c15 c16 c17 c18 c19 c20 c21 c22 c23 c24 c25 c26 c27 c28 c29 c44 c45 c46 c47 c48 : Value} (w0 : World) {W : World} {Q : Exit → Act → World → Prop} (hb0 : Below w0.heap.size w0 W) (C0 : W.cell? ⟨ga, 0, none⟩ = some (.int .i64 (ai : Nat))) (C1 : W.cell? ⟨ga, 1, none⟩ = some (.string an)) (C2 : W.cell? ⟨ga, 2, none⟩ = some (.int .i64 (ao : Nat))) (C3 : W.cell? ⟨gb, 0, none⟩ = some (.int .i64 (bi : Nat))) (C4 : W.cell? ⟨gb, 1, none⟩ = some (.string bn)) (C5 : W.cell? ⟨gb, 2, none⟩ = some (.int .i64 (bo : Nat))) (C6 : W.cell? ⟨gr, k * 3, none⟩ = some (.int .i64 (ci : Nat))) (C7 : W.cell? ⟨gr, k * 3 + 1, none⟩ = some (.string cn)) (C8 : W.cell? ⟨gr, k * 3 + 2, none⟩ = some (.int .i64 (co : Nat)))  (H1 : Hid (∀ w1, Below w0.heap.size w0 w1 → Calls Tryd.prog 18 #[.agg #[.int .i64 (ai : Nat), .string an, .int .i64 (ao : Nat)], .agg #[.int .i64 (ci : Nat), .string cn, .int .i64 (co : Nat)]] w1 fun e w' => e = .returned (.bool true) ∧ Below w1.heap.size w1 w')) (_hk : k < 6) (hk2 : ((k : Int) < 6) = True) (H2 : Hid (∀ w1, Below w0.heap.size w0 w1 → Calls Tryd.prog 18 #[.agg #[.int .i64 (bi : Nat), .string bn, .int .i64 (bo : Nat)], .agg #[.int .i64 (ci : Nat), .string cn, .int .i64 (co : Nat)]] w1 fun e w' => e = .returned (.bool d) ∧ Below w1.heap.size w1 w'))
    (hQ : ∀ (w : World) , (True) → Below w0.heap.size w0 w → Q .normal { tmps := #[c0, c1, .pointer (some ⟨ga, 0, none⟩), .pointer (some ⟨gb, 0, none⟩), c4, .slice (some ⟨gr, 0, none⟩) 6 6, .int .i64 (k : Nat), c7, c8, c9, c10, c11, c12, c13, c14, c15, c16, c17, c18, c19, c20, c21, c22, c23, c24, c25, c26, c27, c28, c29, .agg #[.int .i64 (ai : Nat), .string an, .int .i64 (ao : Nat)], .slice (some ⟨gr, 0, none⟩) 6 6, .int .i64 (k : Nat), .pointer (some ⟨gr, k * 3, none⟩), .agg #[.int .i64 (ci : Nat), .string cn, .int .i64 (co : Nat)], .bool true, .bool true, .agg #[.int .i64 (bi : Nat), .string bn, .int .i64 (bo : Nat)], .slice (some ⟨gr, 0, none⟩) 6 6, .int .i64 (k : Nat), .pointer (some ⟨gr, k * 3, none⟩), .agg #[.int .i64 (ci : Nat), .string cn, .int .i64 (co : Nat)], .bool d, .bool d, c44, c45, c46, c47, c48], defers := [] } w) :
    Code.wp Tryd.prog ((Tryd.f48.body.bind (regionOf 9)).getD .skip) Q { tmps := #[c0, c1, .pointer (some ⟨ga, 0, none⟩), .pointer (some ⟨gb, 0, none⟩), c4, .slice (some ⟨gr, 0, none⟩) 6 6, .int .i64 (k : Nat), c7, c8, c9, c10, c11, c12, c13, c14, c15, c16, c17, c18, c19, c20, c21, c22, c23, c24, c25, c26, c27, c28, c29, x30, x31, x32, x33, x34, x35, x36, x37, x38, x39, x40, x41, x42, x43, c44, c45, c46, c47, c48], defers := [] } W := by
  conv => arg 2; whnf
  refine wp_region_inv (by kernel_rfl) (by kernel_rfl) (LeI w0 ga gb gr k ai ao bi bo ci co an bn cn d c0 c1 c4 c7 c8 c9 c10 c11 c12 c13 c14 c15 c16 c17 c18 c19 c20 c21 c22 c23 c24 c25 c26 c27 c28 c29 c44 c45 c46 c47 c48) ?_ ?_ ?_
  · exact ⟨_, _, _, _, _, _, _, _, _, _, _, _, _, _, rfl, fun h => absurd h l0, fun h => absurd h l0, fun h => absurd h l0, fun h => absurd h l0, fun h => absurd h l0, fun h => absurd h l0, fun h => absurd h l0, fun h => absurd h l0, fun h => absurd h l0, fun h => absurd h l0, fun h => absurd h l0, fun h => absurd h l0, fun h => absurd h l0, fun h => absurd h l0, bdr hb0, C0, C1, C2, C3, C4, C5, C6, C7, C8⟩
  · intro i o listed A w hi ho hd hn hI
    unfold LeI at hI
    obtain ⟨s30, hI⟩ := hI
    obtain ⟨s31, hI⟩ := hI
    obtain ⟨s32, hI⟩ := hI
    obtain ⟨s33, hI⟩ := hI
    obtain ⟨s34, hI⟩ := hI
    obtain ⟨s35, hI⟩ := hI
    obtain ⟨s36, hI⟩ := hI
    obtain ⟨s37, hI⟩ := hI
    obtain ⟨s38, hI⟩ := hI
    obtain ⟨s39, hI⟩ := hI
    obtain ⟨s40, hI⟩ := hI
    obtain ⟨s41, hI⟩ := hI
    obtain ⟨s42, hI⟩ := hI
    obtain ⟨s43, hI⟩ := hI
    obtain ⟨rfl, hI⟩ := hI
    obtain ⟨F0, hI⟩ := hI
    obtain ⟨F1, hI⟩ := hI
    obtain ⟨F2, hI⟩ := hI
    obtain ⟨F3, hI⟩ := hI
    obtain ⟨F4, hI⟩ := hI
    obtain ⟨F5, hI⟩ := hI
    obtain ⟨F6, hI⟩ := hI
    obtain ⟨F7, hI⟩ := hI
    obtain ⟨F8, hI⟩ := hI
    obtain ⟨F9, hI⟩ := hI
    obtain ⟨F10, hI⟩ := hI
    obtain ⟨F11, hI⟩ := hI
    obtain ⟨F12, hI⟩ := hI
    obtain ⟨F13, hI⟩ := hI
    obtain ⟨F14, hI⟩ := hI
    obtain ⟨F15, hI⟩ := hI
    obtain ⟨F16, hI⟩ := hI
    obtain ⟨F17, hI⟩ := hI
    obtain ⟨F18, hI⟩ := hI
    obtain ⟨F19, hI⟩ := hI
    obtain ⟨F20, hI⟩ := hI
    obtain ⟨F21, hI⟩ := hI
    obtain ⟨F22, hI⟩ := hI
    have F23 := hI; clear hI
    have hi' : i < 14 := hi
    clear hi
    rcases (by omega : i = 0 ∨ i = 1 ∨ i = 2 ∨ i = 3 ∨ i = 4 ∨ i = 5 ∨ i = 6 ∨ i = 7 ∨ i = 8 ∨ i = 9 ∨ i = 10 ∨ i = 11 ∨ i = 12 ∨ i = 13) with rfl | rfl | rfl | rfl | rfl | rfl | rfl | rfl | rfl | rfl | rfl | rfl | rfl | rfl
    · simp only [List.getElem?_toArray, List.getElem?_cons_zero, Option.some.injEq] at ho
      subst ho
      have h0 := F15; have h1 := F16; have h2 := F17
      refine wpOp_step rfl (fun K hK => ?_)
      go_simp
      refine hK _ _ ?_
      exact ⟨_, _, _, _, _, _, _, _, _, _, _, _, _, _, rfl, fun _ => rfl, lk F1, lk F2, lk F3, lk F4, lk F5, lk F6, lk F7, lk F8, lk F9, lk F10, lk F11, lk F12, lk F13, F14, F15, F16, F17, F18, F19, F20, F21, F22, F23⟩
    · simp only [List.getElem?_toArray, List.getElem?_cons_zero, List.getElem?_cons_succ, Option.some.injEq] at ho
      subst ho
      refine wpOp_step rfl (fun K hK => ?_)
      go_simp
      refine hK _ _ ?_
      exact ⟨_, _, _, _, _, _, _, _, _, _, _, _, _, _, rfl, lk F0, fun _ => rfl, lk F2, lk F3, lk F4, lk F5, lk F6, lk F7, lk F8, lk F9, lk F10, lk F11, lk F12, lk F13, F14, F15, F16, F17, F18, F19, F20, F21, F22, F23⟩
    · simp only [List.getElem?_toArray, List.getElem?_cons_zero, List.getElem?_cons_succ, Option.some.injEq] at ho
      subst ho
      refine wpOp_step rfl (fun K hK => ?_)
      go_simp
      refine hK _ _ ?_
      exact ⟨_, _, _, _, _, _, _, _, _, _, _, _, _, _, rfl, lk F0, lk F1, fun _ => rfl, lk F3, lk F4, lk F5, lk F6, lk F7, lk F8, lk F9, lk F10, lk F11, lk F12, lk F13, F14, F15, F16, F17, F18, F19, F20, F21, F22, F23⟩
    · simp only [List.getElem?_toArray, List.getElem?_cons_zero, List.getElem?_cons_succ, Option.some.injEq] at ho
      subst ho
      obtain rfl := F1 (hd ⟨1, .data⟩ (by simp) rfl)
      obtain rfl := F2 (hd ⟨2, .data⟩ (by simp) rfl)
      refine wpOp_step rfl (fun K hK => ?_)
      go_simp
      refine hK _ _ ?_
      exact ⟨_, _, _, _, _, _, _, _, _, _, _, _, _, _, rfl, lk F0, lk F1, lk F2, fun _ => rfl, lk F4, lk F5, lk F6, lk F7, lk F8, lk F9, lk F10, lk F11, lk F12, lk F13, F14, F15, F16, F17, F18, F19, F20, F21, F22, F23⟩
    · simp only [List.getElem?_toArray, List.getElem?_cons_zero, List.getElem?_cons_succ, Option.some.injEq] at ho
      subst ho
      obtain rfl := F3 (hd ⟨3, .data⟩ (by simp) rfl)
      have h0 := F21; have h1 := F22; have h2 := F23
      refine wpOp_step rfl (fun K hK => ?_)
      go_simp
      refine hK _ _ ?_
      exact ⟨_, _, _, _, _, _, _, _, _, _, _, _, _, _, rfl, lk F0, lk F1, lk F2, lk F3, fun _ => rfl, lk F5, lk F6, lk F7, lk F8, lk F9, lk F10, lk F11, lk F12, lk F13, F14, F15, F16, F17, F18, F19, F20, F21, F22, F23⟩
    · simp only [List.getElem?_toArray, List.getElem?_cons_zero, List.getElem?_cons_succ, Option.some.injEq] at ho
      subst ho
      obtain rfl := F0 (hd ⟨0, .data⟩ (by simp) rfl)
      obtain rfl := F4 (hd ⟨4, .data⟩ (by simp) rfl)
      refine wpOp_step rfl (fun K hK => ?_)
      go_simp
      go_at_call 18
      refine (H1.out _ F14).mono ?_
      rintro e w' ⟨rfl, hb⟩
      refine hK _ _ ?_
      exact ⟨_, _, _, _, _, _, _, _, _, _, _, _, _, _, rfl, lk F0, lk F1, lk F2, lk F3, lk F4, fun _ => rfl, lk F6, lk F7, lk F8, lk F9, lk F10, lk F11, lk F12, lk F13, bt F14 hb, cell_call F15 hb, cell_call F16 hb, cell_call F17 hb, cell_call F18 hb, cell_call F19 hb, cell_call F20 hb, cell_call F21 hb, cell_call F22 hb, cell_call F23 hb⟩
    · simp only [List.getElem?_toArray, List.getElem?_cons_zero, List.getElem?_cons_succ, Option.some.injEq] at ho
      subst ho
      obtain rfl := F5 (hd ⟨5, .data⟩ (by simp) rfl)
      refine wpOp_step rfl (fun K hK => ?_)
      go_simp
      refine hK _ _ ?_
      exact ⟨_, _, _, _, _, _, _, _, _, _, _, _, _, _, rfl, lk F0, lk F1, lk F2, lk F3, lk F4, lk F5, fun _ => rfl, lk F7, lk F8, lk F9, lk F10, lk F11, lk F12, lk F13, F14, F15, F16, F17, F18, F19, F20, F21, F22, F23⟩
    · simp only [List.getElem?_toArray, List.getElem?_cons_zero, List.getElem?_cons_succ, Option.some.injEq] at ho
      subst ho
      obtain rfl := F6 (hd ⟨6, .guard⟩ (by simp) rfl)
      have h0 := F18; have h1 := F19; have h2 := F20
      refine wpOp_step rfl (fun K hK => ?_)
      go_simp
      refine hK _ _ ?_
      exact ⟨_, _, _, _, _, _, _, _, _, _, _, _, _, _, rfl, lk F0, lk F1, lk F2, lk F3, lk F4, lk F5, lk F6, fun _ => rfl, lk F8, lk F9, lk F10, lk F11, lk F12, lk F13, F14, F15, F16, F17, F18, F19, F20, F21, F22, F23⟩
    · simp only [List.getElem?_toArray, List.getElem?_cons_zero, List.getElem?_cons_succ, Option.some.injEq] at ho
      subst ho
      obtain rfl := F6 (hd ⟨6, .guard⟩ (by simp) rfl)
      refine wpOp_step rfl (fun K hK => ?_)
      go_simp
      refine hK _ _ ?_
      exact ⟨_, _, _, _, _, _, _, _, _, _, _, _, _, _, rfl, lk F0, lk F1, lk F2, lk F3, lk F4, lk F5, lk F6, lk F7, fun _ => rfl, lk F9, lk F10, lk F11, lk F12, lk F13, F14, F15, F16, F17, F18, F19, F20, F21, F22, F23⟩
    · simp only [List.getElem?_toArray, List.getElem?_cons_zero, List.getElem?_cons_succ, Option.some.injEq] at ho
      subst ho
      obtain rfl := F6 (hd ⟨6, .guard⟩ (by simp) rfl)
      refine wpOp_step rfl (fun K hK => ?_)
      go_simp
      refine hK _ _ ?_
      exact ⟨_, _, _, _, _, _, _, _, _, _, _, _, _, _, rfl, lk F0, lk F1, lk F2, lk F3, lk F4, lk F5, lk F6, lk F7, lk F8, fun _ => rfl, lk F10, lk F11, lk F12, lk F13, F14, F15, F16, F17, F18, F19, F20, F21, F22, F23⟩
    · simp only [List.getElem?_toArray, List.getElem?_cons_zero, List.getElem?_cons_succ, Option.some.injEq] at ho
      subst ho
      obtain rfl := F8 (hd ⟨8, .data⟩ (by simp) rfl)
      obtain rfl := F9 (hd ⟨9, .data⟩ (by simp) rfl)
      obtain rfl := F6 (hd ⟨6, .guard⟩ (by simp) rfl)
      refine wpOp_step rfl (fun K hK => ?_)
      go_simp
      refine hK _ _ ?_
      exact ⟨_, _, _, _, _, _, _, _, _, _, _, _, _, _, rfl, lk F0, lk F1, lk F2, lk F3, lk F4, lk F5, lk F6, lk F7, lk F8, lk F9, fun _ => rfl, lk F11, lk F12, lk F13, F14, F15, F16, F17, F18, F19, F20, F21, F22, F23⟩
    · simp only [List.getElem?_toArray, List.getElem?_cons_zero, List.getElem?_cons_succ, Option.some.injEq] at ho
      subst ho
      obtain rfl := F10 (hd ⟨10, .data⟩ (by simp) rfl)
      obtain rfl := F6 (hd ⟨6, .guard⟩ (by simp) rfl)
      have h0 := F21; have h1 := F22; have h2 := F23
      refine wpOp_step rfl (fun K hK => ?_)
      go_simp
      refine hK _ _ ?_
      exact ⟨_, _, _, _, _, _, _, _, _, _, _, _, _, _, rfl, lk F0, lk F1, lk F2, lk F3, lk F4, lk F5, lk F6, lk F7, lk F8, lk F9, lk F10, fun _ => rfl, lk F12, lk F13, F14, F15, F16, F17, F18, F19, F20, F21, F22, F23⟩
    · simp only [List.getElem?_toArray, List.getElem?_cons_zero, List.getElem?_cons_succ, Option.some.injEq] at ho
      subst ho
      obtain rfl := F7 (hd ⟨7, .data⟩ (by simp) rfl)
      obtain rfl := F11 (hd ⟨11, .data⟩ (by simp) rfl)
      obtain rfl := F6 (hd ⟨6, .guard⟩ (by simp) rfl)
      refine wpOp_step rfl (fun K hK => ?_)
      go_simp
      go_at_call 18
      refine (H2.out _ F14).mono ?_
      rintro e w' ⟨rfl, hb⟩
      refine hK _ _ ?_
      exact ⟨_, _, _, _, _, _, _, _, _, _, _, _, _, _, rfl, lk F0, lk F1, lk F2, lk F3, lk F4, lk F5, lk F6, lk F7, lk F8, lk F9, lk F10, lk F11, fun _ => rfl, lk F13, bt F14 hb, cell_call F15 hb, cell_call F16 hb, cell_call F17 hb, cell_call F18 hb, cell_call F19 hb, cell_call F20 hb, cell_call F21 hb, cell_call F22 hb, cell_call F23 hb⟩
    · simp only [List.getElem?_toArray, List.getElem?_cons_zero, List.getElem?_cons_succ, Option.some.injEq] at ho
      subst ho
      obtain rfl := F6 (hd ⟨6, .data⟩ (by simp) rfl)
      obtain rfl := F12 (hd ⟨12, .data⟩ (by simp) rfl)
      refine wpOp_step rfl (fun K hK => ?_)
      go_simp
      refine hK _ _ ?_
      exact ⟨_, _, _, _, _, _, _, _, _, _, _, _, _, _, rfl, lk F0, lk F1, lk F2, lk F3, lk F4, lk F5, lk F6, lk F7, lk F8, lk F9, lk F10, lk F11, lk F12, fun _ => rfl, F14, F15, F16, F17, F18, F19, F20, F21, F22, F23⟩
  · intro listed A w hall hI
    unfold LeI at hI
    obtain ⟨s30, hI⟩ := hI
    obtain ⟨s31, hI⟩ := hI
    obtain ⟨s32, hI⟩ := hI
    obtain ⟨s33, hI⟩ := hI
    obtain ⟨s34, hI⟩ := hI
    obtain ⟨s35, hI⟩ := hI
    obtain ⟨s36, hI⟩ := hI
    obtain ⟨s37, hI⟩ := hI
    obtain ⟨s38, hI⟩ := hI
    obtain ⟨s39, hI⟩ := hI
    obtain ⟨s40, hI⟩ := hI
    obtain ⟨s41, hI⟩ := hI
    obtain ⟨s42, hI⟩ := hI
    obtain ⟨s43, hI⟩ := hI
    obtain ⟨rfl, hI⟩ := hI
    obtain ⟨F0, hI⟩ := hI
    obtain ⟨F1, hI⟩ := hI
    obtain ⟨F2, hI⟩ := hI
    obtain ⟨F3, hI⟩ := hI
    obtain ⟨F4, hI⟩ := hI
    obtain ⟨F5, hI⟩ := hI
    obtain ⟨F6, hI⟩ := hI
    obtain ⟨F7, hI⟩ := hI
    obtain ⟨F8, hI⟩ := hI
    obtain ⟨F9, hI⟩ := hI
    obtain ⟨F10, hI⟩ := hI
    obtain ⟨F11, hI⟩ := hI
    obtain ⟨F12, hI⟩ := hI
    obtain ⟨F13, hI⟩ := hI
    obtain ⟨F14, hI⟩ := hI
    obtain ⟨F15, hI⟩ := hI
    obtain ⟨F16, hI⟩ := hI
    obtain ⟨F17, hI⟩ := hI
    obtain ⟨F18, hI⟩ := hI
    obtain ⟨F19, hI⟩ := hI
    obtain ⟨F20, hI⟩ := hI
    obtain ⟨F21, hI⟩ := hI
    obtain ⟨F22, hI⟩ := hI
    have F23 := hI; clear hI
    obtain rfl := F0 (hall 0 (by decide))
    obtain rfl := F1 (hall 1 (by decide))
    obtain rfl := F2 (hall 2 (by decide))
    obtain rfl := F3 (hall 3 (by decide))
    obtain rfl := F4 (hall 4 (by decide))
    obtain rfl := F5 (hall 5 (by decide))
    obtain rfl := F6 (hall 6 (by decide))
    obtain rfl := F7 (hall 7 (by decide))
    obtain rfl := F8 (hall 8 (by decide))
    obtain rfl := F9 (hall 9 (by decide))
    obtain rfl := F10 (hall 10 (by decide))
    obtain rfl := F11 (hall 11 (by decide))
    obtain rfl := F12 (hall 12 (by decide))
    obtain rfl := F13 (hall 13 (by decide))
    have HB := F14
    have Q0 := F15
    have Q1 := F16
    have Q2 := F17
    have Q3 := F18
    have Q4 := F19
    have Q5 := F20
    have Q6 := F21
    have Q7 := F22
    have Q8 := F23
    exact hQ _ trivial HB
def LgI (w0 : World) (ga gb gr k ai ao bi bo ci co : Nat) (an bn cn : ByteArray) (_d : Bool) (c0 c1 c4 c7 c8 c9 c10 c11 c12 c13 c14 c15 c16 c17 c18 c19 c20 c21 c22 c23 c24 c25 c26 c27 c28 c29 c44 c45 c46 c47 c48 : Value) (listed : Array Bool) (A : Act) (w : World) : Prop := ∃ (s30 s31 s32 s33 s34 s35 s36 s37 s38 s39 s40 s41 s42 s43 : Value), A = { tmps := #[c0, c1, .pointer (some ⟨ga, 0, none⟩), .pointer (some ⟨gb, 0, none⟩), c4, .slice (some ⟨gr, 0, none⟩) 6 6, .int .i64 (k : Nat), c7, c8, c9, c10, c11, c12, c13, c14, c15, c16, c17, c18, c19, c20, c21, c22, c23, c24, c25, c26, c27, c28, c29, s30, s31, s32, s33, s34, s35, s36, s37, s38, s39, s40, s41, s42, s43, c44, c45, c46, c47, c48], defers := [] } ∧
  (listed.getD 0 false = true → s30 = .agg #[.int .i64 (ai : Nat), .string an, .int .i64 (ao : Nat)]) ∧
  (listed.getD 1 false = true → s31 = .slice (some ⟨gr, 0, none⟩) 6 6) ∧
  (listed.getD 2 false = true → s32 = .int .i64 (k : Nat)) ∧
  (listed.getD 3 false = true → s33 = .pointer (some ⟨gr, k * 3, none⟩)) ∧
  (listed.getD 4 false = true → s34 = .agg #[.int .i64 (ci : Nat), .string cn, .int .i64 (co : Nat)]) ∧
  (listed.getD 5 false = true → s35 = .bool false) ∧
  (listed.getD 6 false = true → s36 = .bool false) ∧
  (listed.getD 7 false = true → s37 = undef) ∧
  (listed.getD 8 false = true → s38 = undef) ∧
  (listed.getD 9 false = true → s39 = undef) ∧
  (listed.getD 10 false = true → s40 = undef) ∧
  (listed.getD 11 false = true → s41 = undef) ∧
  (listed.getD 12 false = true → s42 = undef) ∧
  (listed.getD 13 false = true → s43 = .bool false) ∧
  Below w0.heap.size w0 w ∧
  w.cell? ⟨ga, 0, none⟩ = some (.int .i64 (ai : Nat)) ∧
  w.cell? ⟨ga, 1, none⟩ = some (.string an) ∧
  w.cell? ⟨ga, 2, none⟩ = some (.int .i64 (ao : Nat)) ∧
  w.cell? ⟨gb, 0, none⟩ = some (.int .i64 (bi : Nat)) ∧
  w.cell? ⟨gb, 1, none⟩ = some (.string bn) ∧
  w.cell? ⟨gb, 2, none⟩ = some (.int .i64 (bo : Nat)) ∧
  w.cell? ⟨gr, k * 3, none⟩ = some (.int .i64 (ci : Nat)) ∧
  w.cell? ⟨gr, k * 3 + 1, none⟩ = some (.string cn) ∧
  w.cell? ⟨gr, k * 3 + 2, none⟩ = some (.int .i64 (co : Nat))
set_option maxRecDepth 100000 in
set_option maxHeartbeats 16000000 in
theorem Lg_region (ga gb gr k ai ao bi bo ci co : Nat) (an bn cn : ByteArray) (d : Bool) {x30 x31 x32 x33 x34 x35 x36 x37 x38 x39 x40 x41 x42 x43 : Value} {c0 c1 c4 c7 c8 c9 c10 c11 c12 c13 c14 c15 c16 c17 c18 c19 c20 c21 c22 c23 c24 c25 c26 c27 c28 c29 c44 c45 c46 c47 c48 : Value} (w0 : World) {W : World} {Q : Exit → Act → World → Prop} (hb0 : Below w0.heap.size w0 W) (C0 : W.cell? ⟨ga, 0, none⟩ = some (.int .i64 (ai : Nat))) (C1 : W.cell? ⟨ga, 1, none⟩ = some (.string an)) (C2 : W.cell? ⟨ga, 2, none⟩ = some (.int .i64 (ao : Nat))) (C3 : W.cell? ⟨gb, 0, none⟩ = some (.int .i64 (bi : Nat))) (C4 : W.cell? ⟨gb, 1, none⟩ = some (.string bn)) (C5 : W.cell? ⟨gb, 2, none⟩ = some (.int .i64 (bo : Nat))) (C6 : W.cell? ⟨gr, k * 3, none⟩ = some (.int .i64 (ci : Nat))) (C7 : W.cell? ⟨gr, k * 3 + 1, none⟩ = some (.string cn)) (C8 : W.cell? ⟨gr, k * 3 + 2, none⟩ = some (.int .i64 (co : Nat)))  (H1 : Hid (∀ w1, Below w0.heap.size w0 w1 → Calls Tryd.prog 18 #[.agg #[.int .i64 (ai : Nat), .string an, .int .i64 (ao : Nat)], .agg #[.int .i64 (ci : Nat), .string cn, .int .i64 (co : Nat)]] w1 fun e w' => e = .returned (.bool false) ∧ Below w1.heap.size w1 w')) (_hk : k < 6) (hk2 : ((k : Int) < 6) = True)
    (hQ : ∀ (w : World) , (True) → Below w0.heap.size w0 w → Q .normal { tmps := #[c0, c1, .pointer (some ⟨ga, 0, none⟩), .pointer (some ⟨gb, 0, none⟩), c4, .slice (some ⟨gr, 0, none⟩) 6 6, .int .i64 (k : Nat), c7, c8, c9, c10, c11, c12, c13, c14, c15, c16, c17, c18, c19, c20, c21, c22, c23, c24, c25, c26, c27, c28, c29, .agg #[.int .i64 (ai : Nat), .string an, .int .i64 (ao : Nat)], .slice (some ⟨gr, 0, none⟩) 6 6, .int .i64 (k : Nat), .pointer (some ⟨gr, k * 3, none⟩), .agg #[.int .i64 (ci : Nat), .string cn, .int .i64 (co : Nat)], .bool false, .bool false, undef, undef, undef, undef, undef, undef, .bool false, c44, c45, c46, c47, c48], defers := [] } w) :
    Code.wp Tryd.prog ((Tryd.f48.body.bind (regionOf 9)).getD .skip) Q { tmps := #[c0, c1, .pointer (some ⟨ga, 0, none⟩), .pointer (some ⟨gb, 0, none⟩), c4, .slice (some ⟨gr, 0, none⟩) 6 6, .int .i64 (k : Nat), c7, c8, c9, c10, c11, c12, c13, c14, c15, c16, c17, c18, c19, c20, c21, c22, c23, c24, c25, c26, c27, c28, c29, x30, x31, x32, x33, x34, x35, x36, x37, x38, x39, x40, x41, x42, x43, c44, c45, c46, c47, c48], defers := [] } W := by
  conv => arg 2; whnf
  refine wp_region_inv (by kernel_rfl) (by kernel_rfl) (LgI w0 ga gb gr k ai ao bi bo ci co an bn cn d c0 c1 c4 c7 c8 c9 c10 c11 c12 c13 c14 c15 c16 c17 c18 c19 c20 c21 c22 c23 c24 c25 c26 c27 c28 c29 c44 c45 c46 c47 c48) ?_ ?_ ?_
  · exact ⟨_, _, _, _, _, _, _, _, _, _, _, _, _, _, rfl, fun h => absurd h l0, fun h => absurd h l0, fun h => absurd h l0, fun h => absurd h l0, fun h => absurd h l0, fun h => absurd h l0, fun h => absurd h l0, fun h => absurd h l0, fun h => absurd h l0, fun h => absurd h l0, fun h => absurd h l0, fun h => absurd h l0, fun h => absurd h l0, fun h => absurd h l0, bdr hb0, C0, C1, C2, C3, C4, C5, C6, C7, C8⟩
  · intro i o listed A w hi ho hd hn hI
    unfold LgI at hI
    obtain ⟨s30, hI⟩ := hI
    obtain ⟨s31, hI⟩ := hI
    obtain ⟨s32, hI⟩ := hI
    obtain ⟨s33, hI⟩ := hI
    obtain ⟨s34, hI⟩ := hI
    obtain ⟨s35, hI⟩ := hI
    obtain ⟨s36, hI⟩ := hI
    obtain ⟨s37, hI⟩ := hI
    obtain ⟨s38, hI⟩ := hI
    obtain ⟨s39, hI⟩ := hI
    obtain ⟨s40, hI⟩ := hI
    obtain ⟨s41, hI⟩ := hI
    obtain ⟨s42, hI⟩ := hI
    obtain ⟨s43, hI⟩ := hI
    obtain ⟨rfl, hI⟩ := hI
    obtain ⟨F0, hI⟩ := hI
    obtain ⟨F1, hI⟩ := hI
    obtain ⟨F2, hI⟩ := hI
    obtain ⟨F3, hI⟩ := hI
    obtain ⟨F4, hI⟩ := hI
    obtain ⟨F5, hI⟩ := hI
    obtain ⟨F6, hI⟩ := hI
    obtain ⟨F7, hI⟩ := hI
    obtain ⟨F8, hI⟩ := hI
    obtain ⟨F9, hI⟩ := hI
    obtain ⟨F10, hI⟩ := hI
    obtain ⟨F11, hI⟩ := hI
    obtain ⟨F12, hI⟩ := hI
    obtain ⟨F13, hI⟩ := hI
    obtain ⟨F14, hI⟩ := hI
    obtain ⟨F15, hI⟩ := hI
    obtain ⟨F16, hI⟩ := hI
    obtain ⟨F17, hI⟩ := hI
    obtain ⟨F18, hI⟩ := hI
    obtain ⟨F19, hI⟩ := hI
    obtain ⟨F20, hI⟩ := hI
    obtain ⟨F21, hI⟩ := hI
    obtain ⟨F22, hI⟩ := hI
    have F23 := hI; clear hI
    have hi' : i < 14 := hi
    clear hi
    rcases (by omega : i = 0 ∨ i = 1 ∨ i = 2 ∨ i = 3 ∨ i = 4 ∨ i = 5 ∨ i = 6 ∨ i = 7 ∨ i = 8 ∨ i = 9 ∨ i = 10 ∨ i = 11 ∨ i = 12 ∨ i = 13) with rfl | rfl | rfl | rfl | rfl | rfl | rfl | rfl | rfl | rfl | rfl | rfl | rfl | rfl
    · simp only [List.getElem?_toArray, List.getElem?_cons_zero, Option.some.injEq] at ho
      subst ho
      have h0 := F15; have h1 := F16; have h2 := F17
      refine wpOp_step rfl (fun K hK => ?_)
      go_simp
      refine hK _ _ ?_
      exact ⟨_, _, _, _, _, _, _, _, _, _, _, _, _, _, rfl, fun _ => rfl, lk F1, lk F2, lk F3, lk F4, lk F5, lk F6, lk F7, lk F8, lk F9, lk F10, lk F11, lk F12, lk F13, F14, F15, F16, F17, F18, F19, F20, F21, F22, F23⟩
    · simp only [List.getElem?_toArray, List.getElem?_cons_zero, List.getElem?_cons_succ, Option.some.injEq] at ho
      subst ho
      refine wpOp_step rfl (fun K hK => ?_)
      go_simp
      refine hK _ _ ?_
      exact ⟨_, _, _, _, _, _, _, _, _, _, _, _, _, _, rfl, lk F0, fun _ => rfl, lk F2, lk F3, lk F4, lk F5, lk F6, lk F7, lk F8, lk F9, lk F10, lk F11, lk F12, lk F13, F14, F15, F16, F17, F18, F19, F20, F21, F22, F23⟩
    · simp only [List.getElem?_toArray, List.getElem?_cons_zero, List.getElem?_cons_succ, Option.some.injEq] at ho
      subst ho
      refine wpOp_step rfl (fun K hK => ?_)
      go_simp
      refine hK _ _ ?_
      exact ⟨_, _, _, _, _, _, _, _, _, _, _, _, _, _, rfl, lk F0, lk F1, fun _ => rfl, lk F3, lk F4, lk F5, lk F6, lk F7, lk F8, lk F9, lk F10, lk F11, lk F12, lk F13, F14, F15, F16, F17, F18, F19, F20, F21, F22, F23⟩
    · simp only [List.getElem?_toArray, List.getElem?_cons_zero, List.getElem?_cons_succ, Option.some.injEq] at ho
      subst ho
      obtain rfl := F1 (hd ⟨1, .data⟩ (by simp) rfl)
      obtain rfl := F2 (hd ⟨2, .data⟩ (by simp) rfl)
      refine wpOp_step rfl (fun K hK => ?_)
      go_simp
      refine hK _ _ ?_
      exact ⟨_, _, _, _, _, _, _, _, _, _, _, _, _, _, rfl, lk F0, lk F1, lk F2, fun _ => rfl, lk F4, lk F5, lk F6, lk F7, lk F8, lk F9, lk F10, lk F11, lk F12, lk F13, F14, F15, F16, F17, F18, F19, F20, F21, F22, F23⟩
    · simp only [List.getElem?_toArray, List.getElem?_cons_zero, List.getElem?_cons_succ, Option.some.injEq] at ho
      subst ho
      obtain rfl := F3 (hd ⟨3, .data⟩ (by simp) rfl)
      have h0 := F21; have h1 := F22; have h2 := F23
      refine wpOp_step rfl (fun K hK => ?_)
      go_simp
      refine hK _ _ ?_
      exact ⟨_, _, _, _, _, _, _, _, _, _, _, _, _, _, rfl, lk F0, lk F1, lk F2, lk F3, fun _ => rfl, lk F5, lk F6, lk F7, lk F8, lk F9, lk F10, lk F11, lk F12, lk F13, F14, F15, F16, F17, F18, F19, F20, F21, F22, F23⟩
    · simp only [List.getElem?_toArray, List.getElem?_cons_zero, List.getElem?_cons_succ, Option.some.injEq] at ho
      subst ho
      obtain rfl := F0 (hd ⟨0, .data⟩ (by simp) rfl)
      obtain rfl := F4 (hd ⟨4, .data⟩ (by simp) rfl)
      refine wpOp_step rfl (fun K hK => ?_)
      go_simp
      go_at_call 18
      refine (H1.out _ F14).mono ?_
      rintro e w' ⟨rfl, hb⟩
      refine hK _ _ ?_
      exact ⟨_, _, _, _, _, _, _, _, _, _, _, _, _, _, rfl, lk F0, lk F1, lk F2, lk F3, lk F4, fun _ => rfl, lk F6, lk F7, lk F8, lk F9, lk F10, lk F11, lk F12, lk F13, bt F14 hb, cell_call F15 hb, cell_call F16 hb, cell_call F17 hb, cell_call F18 hb, cell_call F19 hb, cell_call F20 hb, cell_call F21 hb, cell_call F22 hb, cell_call F23 hb⟩
    · simp only [List.getElem?_toArray, List.getElem?_cons_zero, List.getElem?_cons_succ, Option.some.injEq] at ho
      subst ho
      obtain rfl := F5 (hd ⟨5, .data⟩ (by simp) rfl)
      refine wpOp_step rfl (fun K hK => ?_)
      go_simp
      refine hK _ _ ?_
      exact ⟨_, _, _, _, _, _, _, _, _, _, _, _, _, _, rfl, lk F0, lk F1, lk F2, lk F3, lk F4, lk F5, fun _ => rfl, lk F7, lk F8, lk F9, lk F10, lk F11, lk F12, lk F13, F14, F15, F16, F17, F18, F19, F20, F21, F22, F23⟩
    · simp only [List.getElem?_toArray, List.getElem?_cons_zero, List.getElem?_cons_succ, Option.some.injEq] at ho
      subst ho
      obtain rfl := F6 (hd ⟨6, .guard⟩ (by simp) rfl)
      refine wpOp_step rfl (fun K hK => ?_)
      go_simp
      refine hK _ _ ?_
      exact ⟨_, _, _, _, _, _, _, _, _, _, _, _, _, _, rfl, lk F0, lk F1, lk F2, lk F3, lk F4, lk F5, lk F6, fun _ => rfl, lk F8, lk F9, lk F10, lk F11, lk F12, lk F13, F14, F15, F16, F17, F18, F19, F20, F21, F22, F23⟩
    · simp only [List.getElem?_toArray, List.getElem?_cons_zero, List.getElem?_cons_succ, Option.some.injEq] at ho
      subst ho
      obtain rfl := F6 (hd ⟨6, .guard⟩ (by simp) rfl)
      refine wpOp_step rfl (fun K hK => ?_)
      go_simp
      refine hK _ _ ?_
      exact ⟨_, _, _, _, _, _, _, _, _, _, _, _, _, _, rfl, lk F0, lk F1, lk F2, lk F3, lk F4, lk F5, lk F6, lk F7, fun _ => rfl, lk F9, lk F10, lk F11, lk F12, lk F13, F14, F15, F16, F17, F18, F19, F20, F21, F22, F23⟩
    · simp only [List.getElem?_toArray, List.getElem?_cons_zero, List.getElem?_cons_succ, Option.some.injEq] at ho
      subst ho
      obtain rfl := F6 (hd ⟨6, .guard⟩ (by simp) rfl)
      refine wpOp_step rfl (fun K hK => ?_)
      go_simp
      refine hK _ _ ?_
      exact ⟨_, _, _, _, _, _, _, _, _, _, _, _, _, _, rfl, lk F0, lk F1, lk F2, lk F3, lk F4, lk F5, lk F6, lk F7, lk F8, fun _ => rfl, lk F10, lk F11, lk F12, lk F13, F14, F15, F16, F17, F18, F19, F20, F21, F22, F23⟩
    · simp only [List.getElem?_toArray, List.getElem?_cons_zero, List.getElem?_cons_succ, Option.some.injEq] at ho
      subst ho
      obtain rfl := F6 (hd ⟨6, .guard⟩ (by simp) rfl)
      refine wpOp_step rfl (fun K hK => ?_)
      go_simp
      refine hK _ _ ?_
      exact ⟨_, _, _, _, _, _, _, _, _, _, _, _, _, _, rfl, lk F0, lk F1, lk F2, lk F3, lk F4, lk F5, lk F6, lk F7, lk F8, lk F9, fun _ => rfl, lk F11, lk F12, lk F13, F14, F15, F16, F17, F18, F19, F20, F21, F22, F23⟩
    · simp only [List.getElem?_toArray, List.getElem?_cons_zero, List.getElem?_cons_succ, Option.some.injEq] at ho
      subst ho
      obtain rfl := F6 (hd ⟨6, .guard⟩ (by simp) rfl)
      refine wpOp_step rfl (fun K hK => ?_)
      go_simp
      refine hK _ _ ?_
      exact ⟨_, _, _, _, _, _, _, _, _, _, _, _, _, _, rfl, lk F0, lk F1, lk F2, lk F3, lk F4, lk F5, lk F6, lk F7, lk F8, lk F9, lk F10, fun _ => rfl, lk F12, lk F13, F14, F15, F16, F17, F18, F19, F20, F21, F22, F23⟩
    · simp only [List.getElem?_toArray, List.getElem?_cons_zero, List.getElem?_cons_succ, Option.some.injEq] at ho
      subst ho
      obtain rfl := F6 (hd ⟨6, .guard⟩ (by simp) rfl)
      refine wpOp_step rfl (fun K hK => ?_)
      go_simp
      refine hK _ _ ?_
      exact ⟨_, _, _, _, _, _, _, _, _, _, _, _, _, _, rfl, lk F0, lk F1, lk F2, lk F3, lk F4, lk F5, lk F6, lk F7, lk F8, lk F9, lk F10, lk F11, fun _ => rfl, lk F13, F14, F15, F16, F17, F18, F19, F20, F21, F22, F23⟩
    · simp only [List.getElem?_toArray, List.getElem?_cons_zero, List.getElem?_cons_succ, Option.some.injEq] at ho
      subst ho
      obtain rfl := F6 (hd ⟨6, .data⟩ (by simp) rfl)
      refine wpOp_step rfl (fun K hK => ?_)
      go_simp
      refine hK _ _ ?_
      exact ⟨_, _, _, _, _, _, _, _, _, _, _, _, _, _, rfl, lk F0, lk F1, lk F2, lk F3, lk F4, lk F5, lk F6, lk F7, lk F8, lk F9, lk F10, lk F11, lk F12, fun _ => rfl, F14, F15, F16, F17, F18, F19, F20, F21, F22, F23⟩
  · intro listed A w hall hI
    unfold LgI at hI
    obtain ⟨s30, hI⟩ := hI
    obtain ⟨s31, hI⟩ := hI
    obtain ⟨s32, hI⟩ := hI
    obtain ⟨s33, hI⟩ := hI
    obtain ⟨s34, hI⟩ := hI
    obtain ⟨s35, hI⟩ := hI
    obtain ⟨s36, hI⟩ := hI
    obtain ⟨s37, hI⟩ := hI
    obtain ⟨s38, hI⟩ := hI
    obtain ⟨s39, hI⟩ := hI
    obtain ⟨s40, hI⟩ := hI
    obtain ⟨s41, hI⟩ := hI
    obtain ⟨s42, hI⟩ := hI
    obtain ⟨s43, hI⟩ := hI
    obtain ⟨rfl, hI⟩ := hI
    obtain ⟨F0, hI⟩ := hI
    obtain ⟨F1, hI⟩ := hI
    obtain ⟨F2, hI⟩ := hI
    obtain ⟨F3, hI⟩ := hI
    obtain ⟨F4, hI⟩ := hI
    obtain ⟨F5, hI⟩ := hI
    obtain ⟨F6, hI⟩ := hI
    obtain ⟨F7, hI⟩ := hI
    obtain ⟨F8, hI⟩ := hI
    obtain ⟨F9, hI⟩ := hI
    obtain ⟨F10, hI⟩ := hI
    obtain ⟨F11, hI⟩ := hI
    obtain ⟨F12, hI⟩ := hI
    obtain ⟨F13, hI⟩ := hI
    obtain ⟨F14, hI⟩ := hI
    obtain ⟨F15, hI⟩ := hI
    obtain ⟨F16, hI⟩ := hI
    obtain ⟨F17, hI⟩ := hI
    obtain ⟨F18, hI⟩ := hI
    obtain ⟨F19, hI⟩ := hI
    obtain ⟨F20, hI⟩ := hI
    obtain ⟨F21, hI⟩ := hI
    obtain ⟨F22, hI⟩ := hI
    have F23 := hI; clear hI
    obtain rfl := F0 (hall 0 (by decide))
    obtain rfl := F1 (hall 1 (by decide))
    obtain rfl := F2 (hall 2 (by decide))
    obtain rfl := F3 (hall 3 (by decide))
    obtain rfl := F4 (hall 4 (by decide))
    obtain rfl := F5 (hall 5 (by decide))
    obtain rfl := F6 (hall 6 (by decide))
    obtain rfl := F7 (hall 7 (by decide))
    obtain rfl := F8 (hall 8 (by decide))
    obtain rfl := F9 (hall 9 (by decide))
    obtain rfl := F10 (hall 10 (by decide))
    obtain rfl := F11 (hall 11 (by decide))
    obtain rfl := F12 (hall 12 (by decide))
    obtain rfl := F13 (hall 13 (by decide))
    have HB := F14
    have Q0 := F15
    have Q1 := F16
    have Q2 := F17
    have Q3 := F18
    have Q4 := F19
    have Q5 := F20
    have Q6 := F21
    have Q7 := F22
    have Q8 := F23
    exact hQ _ trivial HB
set_option maxHeartbeats 16000000
def ofT (k : TK) (a b c : Bool) : TT := if k.i = 0 ∨ (b = false ∧ c = false) then emptyT else ⟨k, if a && c then 3 else if a then 1 else if c then 2 else 0⟩
theorem of_zero (n : ByteArray) (o : Nat) (a b c : Bool) (w : World) : Calls Tryd.prog 49 #[.agg #[.int .i64 0, .string n, .int .i64 (o : Nat)], .bool a, .bool b, .bool c] w fun e w' => e = .returned (.agg #[.int .i64 0, .string (ba' []), .int .i64 3]) ∧ Below w.heap.size w w' := by
  go_enter Tryd.func49, Tryd.ntmps49
  go_wp2
  exact bodyPost_ret (v := .agg #[.int .i64 0, .string (ba' []), .int .i64 3]) (by simp [results, Tryd.results49, go_sem, *] <;> first | rfl | omega) rfl ⟨rfl, (by repeat (with_reducible (first | exact Below.refl _ _ | assumption | apply ba | apply bd | apply bdr | (refine bs ?_ (by first | assumption | (simp; done) | (simp; omega))) | (refine bt ?_ (by assumption)))))⟩
theorem of_none (i o : Nat) (n : ByteArray) (h0 : ¬ i = 0) (a : Bool) (w : World) : Calls Tryd.prog 49 #[.agg #[.int .i64 (i : Nat), .string n, .int .i64 (o : Nat)], .bool a, .bool false, .bool false] w fun e w' => e = .returned (.agg #[.int .i64 0, .string (ba' []), .int .i64 3]) ∧ Below w.heap.size w w' := by
  have g0 : (i = 0) = False := by simpa using h0
  have g0b : ((i : Int) == 0) = false := by simpa using h0
  go_enter Tryd.func49, Tryd.ntmps49
  go_wp2
  exact bodyPost_ret (v := .agg #[.int .i64 0, .string (ba' []), .int .i64 3]) (by simp [results, Tryd.results49, go_sem, *] <;> first | rfl | omega) rfl ⟨rfl, (by repeat (with_reducible (first | exact Below.refl _ _ | assumption | apply ba | apply bd | apply bdr | (refine bs ?_ (by first | assumption | (simp; done) | (simp; omega))) | (refine bt ?_ (by assumption)))))⟩
theorem of_ttf (i o : Nat) (n : ByteArray) (h0 : ¬ i = 0) (w : World) : Calls Tryd.prog 49 #[.agg #[.int .i64 (i : Nat), .string n, .int .i64 (o : Nat)], .bool true, .bool true, .bool false] w fun e w' => e = .returned (.agg #[.int .i64 (i : Nat), .string n, .int .i64 1]) ∧ Below w.heap.size w w' := by
  have g0 : (i = 0) = False := by simpa using h0
  have g0b : ((i : Int) == 0) = false := by simpa using h0
  go_enter Tryd.func49, Tryd.ntmps49
  go_wp2
  exact bodyPost_ret (v := .agg #[.int .i64 (i : Nat), .string n, .int .i64 1]) (by simp [results, Tryd.results49, go_sem, *] <;> first | rfl | omega) rfl ⟨rfl, (by repeat (with_reducible (first | exact Below.refl _ _ | assumption | apply ba | apply bd | apply bdr | (refine bs ?_ (by first | assumption | (simp; done) | (simp; omega))) | (refine bt ?_ (by assumption)))))⟩
theorem of_ftf (i o : Nat) (n : ByteArray) (h0 : ¬ i = 0) (w : World) : Calls Tryd.prog 49 #[.agg #[.int .i64 (i : Nat), .string n, .int .i64 (o : Nat)], .bool false, .bool true, .bool false] w fun e w' => e = .returned (.agg #[.int .i64 (i : Nat), .string n, .int .i64 0]) ∧ Below w.heap.size w w' := by
  have g0 : (i = 0) = False := by simpa using h0
  have g0b : ((i : Int) == 0) = false := by simpa using h0
  go_enter Tryd.func49, Tryd.ntmps49
  go_wp2
  exact bodyPost_ret (v := .agg #[.int .i64 (i : Nat), .string n, .int .i64 0]) (by simp [results, Tryd.results49, go_sem, *] <;> first | rfl | omega) rfl ⟨rfl, (by repeat (with_reducible (first | exact Below.refl _ _ | assumption | apply ba | apply bd | apply bdr | (refine bs ?_ (by first | assumption | (simp; done) | (simp; omega))) | (refine bt ?_ (by assumption)))))⟩
theorem of_tft (i o : Nat) (n : ByteArray) (h0 : ¬ i = 0) (w : World) : Calls Tryd.prog 49 #[.agg #[.int .i64 (i : Nat), .string n, .int .i64 (o : Nat)], .bool true, .bool false, .bool true] w fun e w' => e = .returned (.agg #[.int .i64 (i : Nat), .string n, .int .i64 3]) ∧ Below w.heap.size w w' := by
  have g0 : (i = 0) = False := by simpa using h0
  have g0b : ((i : Int) == 0) = false := by simpa using h0
  go_enter Tryd.func49, Tryd.ntmps49
  go_wp2
  exact bodyPost_ret (v := .agg #[.int .i64 (i : Nat), .string n, .int .i64 3]) (by simp [results, Tryd.results49, go_sem, *] <;> first | rfl | omega) rfl ⟨rfl, (by repeat (with_reducible (first | exact Below.refl _ _ | assumption | apply ba | apply bd | apply bdr | (refine bs ?_ (by first | assumption | (simp; done) | (simp; omega))) | (refine bt ?_ (by assumption)))))⟩
theorem of_fft (i o : Nat) (n : ByteArray) (h0 : ¬ i = 0) (w : World) : Calls Tryd.prog 49 #[.agg #[.int .i64 (i : Nat), .string n, .int .i64 (o : Nat)], .bool false, .bool false, .bool true] w fun e w' => e = .returned (.agg #[.int .i64 (i : Nat), .string n, .int .i64 2]) ∧ Below w.heap.size w w' := by
  have g0 : (i = 0) = False := by simpa using h0
  have g0b : ((i : Int) == 0) = false := by simpa using h0
  go_enter Tryd.func49, Tryd.ntmps49
  go_wp2
  exact bodyPost_ret (v := .agg #[.int .i64 (i : Nat), .string n, .int .i64 2]) (by simp [results, Tryd.results49, go_sem, *] <;> first | rfl | omega) rfl ⟨rfl, (by repeat (with_reducible (first | exact Below.refl _ _ | assumption | apply ba | apply bd | apply bdr | (refine bs ?_ (by first | assumption | (simp; done) | (simp; omega))) | (refine bt ?_ (by assumption)))))⟩
theorem of_ttt (i o : Nat) (n : ByteArray) (h0 : ¬ i = 0) (w : World) : Calls Tryd.prog 49 #[.agg #[.int .i64 (i : Nat), .string n, .int .i64 (o : Nat)], .bool true, .bool true, .bool true] w fun e w' => e = .returned (.agg #[.int .i64 (i : Nat), .string n, .int .i64 3]) ∧ Below w.heap.size w w' := by
  have g0 : (i = 0) = False := by simpa using h0
  have g0b : ((i : Int) == 0) = false := by simpa using h0
  go_enter Tryd.func49, Tryd.ntmps49
  go_wp2
  exact bodyPost_ret (v := .agg #[.int .i64 (i : Nat), .string n, .int .i64 3]) (by simp [results, Tryd.results49, go_sem, *] <;> first | rfl | omega) rfl ⟨rfl, (by repeat (with_reducible (first | exact Below.refl _ _ | assumption | apply ba | apply bd | apply bdr | (refine bs ?_ (by first | assumption | (simp; done) | (simp; omega))) | (refine bt ?_ (by assumption)))))⟩
theorem of_ftt (i o : Nat) (n : ByteArray) (h0 : ¬ i = 0) (w : World) : Calls Tryd.prog 49 #[.agg #[.int .i64 (i : Nat), .string n, .int .i64 (o : Nat)], .bool false, .bool true, .bool true] w fun e w' => e = .returned (.agg #[.int .i64 (i : Nat), .string n, .int .i64 2]) ∧ Below w.heap.size w w' := by
  have g0 : (i = 0) = False := by simpa using h0
  have g0b : ((i : Int) == 0) = false := by simpa using h0
  go_enter Tryd.func49, Tryd.ntmps49
  go_wp2
  exact bodyPost_ret (v := .agg #[.int .i64 (i : Nat), .string n, .int .i64 2]) (by simp [results, Tryd.results49, go_sem, *] <;> first | rfl | omega) rfl ⟨rfl, (by repeat (with_reducible (first | exact Below.refl _ _ | assumption | apply ba | apply bd | apply bdr | (refine bs ?_ (by first | assumption | (simp; done) | (simp; omega))) | (refine bt ?_ (by assumption)))))⟩
theorem of_ref (i o : Nat) (n : List UInt8) (a b c : Bool) (w : World) : Calls Tryd.prog 49 #[.agg #[.int .i64 (i : Nat), .string (ba' n), .int .i64 (o : Nat)], .bool a, .bool b, .bool c] w fun e w' => e = .returned (.agg #[.int .i64 ((ofT ⟨i, n⟩ a b c).k.i : Nat), .string (ba' (ofT ⟨i, n⟩ a b c).k.n), .int .i64 ((ofT ⟨i, n⟩ a b c).o : Nat)]) ∧ Below w.heap.size w w' := by
  by_cases h0 : i = 0
  · rw [ofT, if_pos (.inl h0), h0]
    exact of_zero _ _ _ _ _ w
  · cases b with
    | false =>
      cases c with
      | false =>
        rw [ofT, if_pos (.inr ⟨rfl, rfl⟩)]
        exact of_none _ _ _ h0 _ w
      | true =>
        rw [ofT, if_neg (by rintro (h | ⟨_, h⟩); exact h0 h; cases h)]
        cases a with
        | true => exact of_tft i o _ h0 w
        | false => exact of_fft i o _ h0 w
    | true =>
      rw [ofT, if_neg (by rintro (h | ⟨h, _⟩); exact h0 h; cases h)]
      cases c with
      | false =>
        cases a with
        | true => exact of_ttf i o _ h0 w
        | false => exact of_ftf i o _ h0 w
      | true =>
        cases a with
        | true => exact of_ttt i o _ h0 w
        | false => exact of_ftt i o _ h0 w
end Go.Proofs.YtjpopmgnhgancaaDoor
namespace Go.Proofs.YtjpopmgnhgancaaDoor
open Go.RowKit Go.Lib
set_option maxRecDepth 100000
set_option maxHeartbeats 16000000
theorem least_za (oa : Nat) (na : ByteArray) (b : TT) (w : World) : Calls Tryd.prog 48 #[.agg #[.int .i64 0, .string na, .int .i64 (oa : Nat)], .agg #[.int .i64 (b.k.i : Nat), .string (ba' b.k.n), .int .i64 (b.o : Nat)]] w fun e w' => e = .returned (.agg #[.int .i64 (b.k.i : Nat), .string (ba' b.k.n), .int .i64 (b.o : Nat)]) ∧ Below w.heap.size w w' := by
  obtain ⟨⟨bi, bn⟩, bo⟩ := b
  simp only
  go_enter Tryd.func48, Tryd.ntmps48
  go_wp2
  exact bodyPost_ret (v := .agg #[.int .i64 (bi : Nat), .string (ba' bn), .int .i64 (bo : Nat)]) (by simp [results, Tryd.results48, go_sem, *] <;> first | rfl | omega) rfl ⟨rfl, (by repeat (with_reducible (first | exact Below.refl _ _ | assumption | apply ba | apply bd | apply bdr | (refine bs ?_ (by first | assumption | (simp; done) | (simp; omega))) | (refine bt ?_ (by assumption)))))⟩
theorem least_zb (ob : Nat) (nb : ByteArray) (a : TT) (ha : ¬ a.k.i = 0) (w : World) : Calls Tryd.prog 48 #[.agg #[.int .i64 (a.k.i : Nat), .string (ba' a.k.n), .int .i64 (a.o : Nat)], .agg #[.int .i64 0, .string nb, .int .i64 (ob : Nat)]] w fun e w' => e = .returned (.agg #[.int .i64 (a.k.i : Nat), .string (ba' a.k.n), .int .i64 (a.o : Nat)]) ∧ Below w.heap.size w w' := by
  obtain ⟨⟨ai, an⟩, ao⟩ := a
  simp only at ha ⊢
  have g0 : (ai = 0) = False := by simpa using ha
  have g0b : ((ai : Int) == 0) = false := by simpa using ha
  go_enter Tryd.func48, Tryd.ntmps48
  go_wp2
  exact bodyPost_ret (v := .agg #[.int .i64 (ai : Nat), .string (ba' an), .int .i64 (ao : Nat)]) (by simp [results, Tryd.results48, go_sem, *] <;> first | rfl | omega) rfl ⟨rfl, (by repeat (with_reducible (first | exact Below.refl _ _ | assumption | apply ba | apply bd | apply bdr | (refine bs ?_ (by first | assumption | (simp; done) | (simp; omega))) | (refine bt ?_ (by assumption)))))⟩
theorem firstIn_drop (a b : TK) (cs : List TK) (i : Nat) (c : TK) (h : cs[i]? = some c) : firstIn a b (cs.drop i) = if lieB a c && lieB b c then c else firstIn a b (cs.drop (i + 1)) := by
  have hi := (List.getElem?_eq_some_iff.1 h).1
  rw [List.drop_eq_getElem_cons hi, firstIn, (List.getElem?_eq_some_iff.1 h).2]
def candT (a b : TT) : List TT := [a, b, ⟨⟨a.k.i, []⟩, 0⟩, ⟨⟨2, []⟩, 0⟩, ⟨⟨6, []⟩, 0⟩, ⟨⟨12, []⟩, 0⟩]
theorem cand_gt {a b : TT} (ha : GT a) (hb : GT b) : ∀ t ∈ candT a b, GT t := by
  intro t ht
  have hu : ∀ i : Nat, i ≤ 13 → GT ⟨⟨i, []⟩, 0⟩ := fun i hi => ⟨⟨hi, fun h => absurd rfl h⟩, Nat.zero_le _⟩
  simp only [candT, List.mem_cons, List.not_mem_nil, or_false] at ht
  rcases ht with rfl | rfl | rfl | rfl | rfl | rfl
  · exact ha
  · exact hb
  · exact hu _ ha.1.1
  · exact hu _ (by decide)
  · exact hu _ (by decide)
  · exact hu _ (by decide)
theorem least_pos (a b : TT) (ha : GT a) (hb : GT b) (h0 : ¬ a.k.i = 0) (h1 : ¬ b.k.i = 0) (w : World) : Calls Tryd.prog 48 #[.agg #[.int .i64 (a.k.i : Nat), .string (ba' a.k.n), .int .i64 (a.o : Nat)], .agg #[.int .i64 (b.k.i : Nat), .string (ba' b.k.n), .int .i64 (b.o : Nat)]] w fun e w' => (∃ o : Nat, e = .returned (.agg #[.int .i64 ((leastK a.k b.k).i : Nat), .string (ba' (leastK a.k b.k).n), .int .i64 (o : Nat)])) ∧ Below w.heap.size w w' := by
  have HLa : Hid (∀ (c : TT) (w1 : World), GT c → Calls Tryd.prog 18 #[.agg #[.int .i64 (a.k.i : Nat), .string (ba' a.k.n), .int .i64 (a.o : Nat)], .agg #[.int .i64 (c.k.i : Nat), .string (ba' c.k.n), .int .i64 (c.o : Nat)]] w1 fun e w' => e = .returned (.bool (lieB a.k c.k)) ∧ Below w1.heap.size w1 w') := Lib.hid fun c w1 hc => lies_ref a c ha hc w1
  have HLb : Hid (∀ (c : TT) (w1 : World), GT c → Calls Tryd.prog 18 #[.agg #[.int .i64 (b.k.i : Nat), .string (ba' b.k.n), .int .i64 (b.o : Nat)], .agg #[.int .i64 (c.k.i : Nat), .string (ba' c.k.n), .int .i64 (c.o : Nat)]] w1 fun e w' => e = .returned (.bool (lieB b.k c.k)) ∧ Below w1.heap.size w1 w') := Lib.hid fun c w1 hc => lies_ref b c hb hc w1
  have HG := Lib.hid (cand_gt ha hb)
  obtain ⟨⟨ri, rn⟩, hr⟩ : ∃ r, leastK a.k b.k = r := ⟨_, rfl⟩
  rw [hr]
  rw [leastK, if_neg h0, if_neg h1] at hr
  have HR : Hid (firstIn a.k b.k ((candT a b).map (·.k)) = ⟨ri, rn⟩) := Lib.hid hr
  have g0 : (a.k.i = 0) = False := by simpa using h0
  have g0b : ((a.k.i : Int) == 0) = false := by simpa using h0
  have g1 : (b.k.i = 0) = False := by simpa using h1
  have g1b : ((b.k.i : Int) == 0) = false := by simpa using h1
  clear hr ha hb h0 h1
  obtain ⟨cs, hcs⟩ : ∃ cs, candT a b = cs := ⟨_, rfl⟩
  have HCS := Lib.hid hcs
  rw [hcs] at HG HR
  clear hcs
  have HL6 : cs.length = 6 := by rw [← HCS.out]; rfl
  obtain ⟨⟨ai, an⟩, ao⟩ := a
  obtain ⟨⟨bi, bn⟩, bo⟩ := b
  simp only at HLa HLb HR g0 g0b g1 g1b ⊢
  go_enter Tryd.func48, Tryd.ntmps48
  go_wp2
  go_loopw [6] (fun s6 wx => ∃ i : Nat, s6 = .int .i64 (i : Nat) ∧ i ≤ 6 ∧ Hid (firstIn ⟨ai, an⟩ ⟨bi, bn⟩ ((cs.map (·.k)).drop i) = ⟨ri, rn⟩) ∧ wx.cell? ⟨w.heap.size, 0, none⟩ = some (.int .i64 (ai : Nat)) ∧ wx.cell? ⟨w.heap.size, 1, none⟩ = some (.string (ba' an)) ∧ wx.cell? ⟨w.heap.size, 2, none⟩ = some (.int .i64 (ao : Nat)) ∧ wx.cell? ⟨w.heap.size + 1, 0, none⟩ = some (.int .i64 (bi : Nat)) ∧ wx.cell? ⟨w.heap.size + 1, 1, none⟩ = some (.string (ba' bn)) ∧ wx.cell? ⟨w.heap.size + 1, 2, none⟩ = some (.int .i64 (bo : Nat)) ∧ wx.cell? ⟨w.heap.size + 1 + 1, 0, none⟩ = some (.int .i64 0) ∧ wx.cell? ⟨w.heap.size + 1 + 1, 1, none⟩ = some (.string ⟨#[]⟩) ∧ wx.cell? ⟨w.heap.size + 1 + 1, 2, none⟩ = some (.int .i64 0) ∧ wx.frozen? ⟨w.heap.size + 1 + 1, 0, none⟩ = false ∧ wx.frozen? ⟨w.heap.size + 1 + 1, 1, none⟩ = false ∧ wx.frozen? ⟨w.heap.size + 1 + 1, 2, none⟩ = false ∧ Hid (TRow wx (w.heap.size + 1 + 1 + 1) cs) ∧ w.heap.size + 1 + 1 + 1 < wx.heap.size ∧ Below w.heap.size w wx) (fun s6 _ => 6 - (intOf s6).toNat)
  case atStart =>
    refine ⟨0, rfl, Nat.zero_le _, by rw [List.drop_zero]; exact HR, (by first | assumption | (go_simp; done) | (go_simp; rfl) | (go_keep; done)), (by first | assumption | (go_simp; done) | (go_simp; rfl) | (go_keep; done)), (by first | assumption | (go_simp; done) | (go_simp; rfl) | (go_keep; done)), (by first | assumption | (go_simp; done) | (go_simp; rfl) | (go_keep; done)), (by first | assumption | (go_simp; done) | (go_simp; rfl) | (go_keep; done)), (by first | assumption | (go_simp; done) | (go_simp; rfl) | (go_keep; done)), (by first | assumption | (go_simp; done) | (go_simp; rfl) | (go_keep; done)), (by first | assumption | (go_simp; done) | (go_simp; rfl) | (go_keep; done)), (by first | assumption | (go_simp; done) | (go_simp; rfl) | (go_keep; done)), (by simp only [frozen?_alloc_cells]; exact frz_past w _ _ (by omega)), (by simp only [frozen?_alloc_cells]; exact frz_past w _ _ (by omega)), (by simp only [frozen?_alloc_cells]; exact frz_past w _ _ (by omega)), Lib.hid ?_, by simp, (by repeat (with_reducible (first | exact Below.refl _ _ | assumption | apply ba | apply bd | apply bdr | (refine bs ?_ (by first | assumption | (simp; done) | (simp; omega))) | (refine bt ?_ (by assumption)))))⟩
    intro j t hj
    rw [← HCS.out] at hj
    match j, hj with
    | 0, hj => cases hj; exact ⟨(by first | assumption | (go_simp; done) | (go_simp; rfl) | (go_keep; done)), (by first | assumption | (go_simp; done) | (go_simp; rfl) | (go_keep; done)), (by first | assumption | (go_simp; done) | (go_simp; rfl) | (go_keep; done))⟩
    | 1, hj => cases hj; exact ⟨(by first | assumption | (go_simp; done) | (go_simp; rfl) | (go_keep; done)), (by first | assumption | (go_simp; done) | (go_simp; rfl) | (go_keep; done)), (by first | assumption | (go_simp; done) | (go_simp; rfl) | (go_keep; done))⟩
    | 2, hj => cases hj; exact ⟨(by first | assumption | (go_simp; done) | (go_simp; rfl) | (go_keep; done)), (by first | assumption | (go_simp; done) | (go_simp; rfl) | (go_keep; done)), (by first | assumption | (go_simp; done) | (go_simp; rfl) | (go_keep; done))⟩
    | 3, hj => cases hj; exact ⟨(by first | assumption | (go_simp; done) | (go_simp; rfl) | (go_keep; done)), (by first | assumption | (go_simp; done) | (go_simp; rfl) | (go_keep; done)), (by first | assumption | (go_simp; done) | (go_simp; rfl) | (go_keep; done))⟩
    | 4, hj => cases hj; exact ⟨(by first | assumption | (go_simp; done) | (go_simp; rfl) | (go_keep; done)), (by first | assumption | (go_simp; done) | (go_simp; rfl) | (go_keep; done)), (by first | assumption | (go_simp; done) | (go_simp; rfl) | (go_keep; done))⟩
    | 5, hj => cases hj; exact ⟨(by first | assumption | (go_simp; done) | (go_simp; rfl) | (go_keep; done)), (by first | assumption | (go_simp; done) | (go_simp; rfl) | (go_keep; done)), (by first | assumption | (go_simp; done) | (go_simp; rfl) | (go_keep; done))⟩
    | j + 6, hj => simp [candT] at hj
  case round =>
    obtain ⟨i, rfl, hi, HF, a0, a1, a2, b0, b1, b2, r0, r1, r2, f0, f1, f2, HRW, hz, hB⟩ := hrel
    have HB := Lib.hid hB
    by_cases hlt : i < 6
    · have k1 : ((i : Int) < 6) = True := by simp; omega
      have k1' : decide ((i : Int) < 6) = true := by simp; omega
      obtain ⟨c, hc⟩ : ∃ c, cs[i]? = some c := ⟨_, List.getElem?_eq_getElem (by rw [HL6]; exact hlt)⟩
      have hcg := HG.out c (List.mem_of_getElem? hc)
      obtain ⟨d0, d1, d2⟩ := HRW.out i c hc
      have hst := HF.out
      rw [firstIn_drop _ _ _ i c.k (by rw [List.getElem?_map, hc]; rfl)] at hst
      have H1 : Hid (∀ w1, Below wr.heap.size wr w1 → Calls Tryd.prog 18 #[.agg #[.int .i64 (ai : Nat), .string (ba' an), .int .i64 (ao : Nat)], .agg #[.int .i64 (c.k.i : Nat), .string (ba' c.k.n), .int .i64 (c.o : Nat)]] w1 fun e w' => e = .returned (.bool (lieB ⟨ai, an⟩ c.k)) ∧ Below w1.heap.size w1 w') := Lib.hid fun w1 _ => HLa.out c w1 hcg
      have H2 : Hid (∀ w1, Below wr.heap.size wr w1 → Calls Tryd.prog 18 #[.agg #[.int .i64 (bi : Nat), .string (ba' bn), .int .i64 (bo : Nat)], .agg #[.int .i64 (c.k.i : Nat), .string (ba' c.k.n), .int .i64 (c.o : Nat)]] w1 fun e w' => e = .returned (.bool (lieB ⟨bi, bn⟩ c.k)) ∧ Below w1.heap.size w1 w') := Lib.hid fun w1 _ => HLb.out c w1 hcg
      obtain ⟨p, hp⟩ : ∃ p, lieB ⟨ai, an⟩ c.k = p := ⟨_, rfl⟩
      obtain ⟨q, hq⟩ : ∃ q, lieB ⟨bi, bn⟩ c.k = q := ⟨_, rfl⟩
      rw [hp] at H1 hst
      rw [hq] at H2 hst
      have HST := Lib.hid hst
      obtain ⟨⟨ci, cn⟩, co⟩ := c
      simp only at d0 d1 d2 H1 H2 HST
      clear hp hq hst hc hcg HF hB
      cases p with
      | false =>
        go_wp2
        refine Lg_region (w.heap.size) (w.heap.size + 1) (w.heap.size + 1 + 1 + 1) i ai ao bi bo ci co (ba' an) (ba' bn) (ba' cn) q wr (Below.refl _ _) a0 a1 a2 b0 b1 b2 d0 d1 d2 H1 hlt k1 ?_
        intro w7 _ hb7
        have e0 := cell_call a0 hb7
        have e1 := cell_call a1 hb7
        have e2 := cell_call a2 hb7
        have e3 := cell_call b0 hb7
        have e4 := cell_call b1 hb7
        have e5 := cell_call b2 hb7
        have e6 := cell_call r0 hb7
        have e7 := cell_call r1 hb7
        have e8 := cell_call r2 hb7
        have e9 := froz_call f0 (by omega) hb7
        have e10 := froz_call f1 (by omega) hb7
        have e11 := froz_call f2 (by omega) hb7
        have q8 := hb7.size
        go_wp2
        go_roundw
        case measure => simp [intOf]; omega
        case rel => exact ⟨i + 1, by simp, by omega, Lib.hid HST.out, e0, e1, e2, e3, e4, e5, e6, e7, e8, e9, e10, e11, Lib.hid (HRW.out.below hb7), by omega, bt HB.out hb7⟩
      | true =>
        go_wp2
        refine Le_region (w.heap.size) (w.heap.size + 1) (w.heap.size + 1 + 1 + 1) i ai ao bi bo ci co (ba' an) (ba' bn) (ba' cn) q wr (Below.refl _ _) a0 a1 a2 b0 b1 b2 d0 d1 d2 H1 hlt k1 H2 ?_
        intro w7 _ hb7
        have e0 := cell_call a0 hb7
        have e1 := cell_call a1 hb7
        have e2 := cell_call a2 hb7
        have e3 := cell_call b0 hb7
        have e4 := cell_call b1 hb7
        have e5 := cell_call b2 hb7
        have e6 := cell_call r0 hb7
        have e7 := cell_call r1 hb7
        have e8 := cell_call r2 hb7
        have e9 := froz_call f0 (by omega) hb7
        have e10 := froz_call f1 (by omega) hb7
        have e11 := froz_call f2 (by omega) hb7
        have q8 := hb7.size
        have d0' := cell_call d0 hb7
        have d1' := cell_call d1 hb7
        have d2' := cell_call d2 hb7
        cases q with
        | false =>
          go_wp2
          go_roundw
          case measure => simp [intOf]; omega
          case rel => exact ⟨i + 1, by simp, by omega, Lib.hid HST.out, e0, e1, e2, e3, e4, e5, e6, e7, e8, e9, e10, e11, Lib.hid (HRW.out.below hb7), by omega, bt HB.out hb7⟩
        | true =>
          obtain ⟨rfl, rfl⟩ : ci = ri ∧ cn = rn := by
            have h := HST.out
            simp only [Bool.and_self, if_true] at h
            cases h
            exact ⟨rfl, rfl⟩
          go_wp2
          exact bodyPost_ret (v := .agg #[.int .i64 (ci : Nat), .string (ba' cn), .int .i64 (co : Nat)]) (by simp [results, Tryd.results48, go_sem, *]) rfl ⟨⟨co, rfl⟩, bs (bs (bs (bt HB.out hb7) (by simp; omega)) (by simp; omega)) (by simp; omega)⟩
    · have k1 : ((i : Int) < 6) = False := by simp; omega
      have k1' : decide ((i : Int) < 6) = false := by simp; omega
      obtain ⟨rfl, rfl⟩ : 13 = ri ∧ [] = rn := by
        have h := HF.out
        rw [show i = 6 by omega, List.drop_eq_nil_of_le (by rw [List.length_map, HL6]; exact Nat.le_refl _), firstIn] at h
        cases h
        exact ⟨rfl, rfl⟩
      go_wp2
      exact bodyPost_ret (v := .agg #[.int .i64 13, .string (ba' []), .int .i64 0]) (by simp [results, Tryd.results48, go_sem, *] <;> rfl) rfl ⟨⟨0, rfl⟩, bs (bs (bs HB.out (by simp; omega)) (by simp; omega)) (by simp; omega)⟩
theorem least_ref (a b : TT) (ha : GT a) (hb : GT b) (w : World) : Calls Tryd.prog 48 #[.agg #[.int .i64 (a.k.i : Nat), .string (ba' a.k.n), .int .i64 (a.o : Nat)], .agg #[.int .i64 (b.k.i : Nat), .string (ba' b.k.n), .int .i64 (b.o : Nat)]] w fun e w' => (∃ o : Nat, e = .returned (.agg #[.int .i64 ((withK a.k b.k).i : Nat), .string (ba' (withK a.k b.k).n), .int .i64 (o : Nat)])) ∧ Below w.heap.size w w' := by
  rw [← leastK_is ha.1 hb.1]
  by_cases h0 : a.k.i = 0
  · have h := least_za a.o (ba' a.k.n) b w
    rw [leastK, if_pos h0, h0]
    exact h.mono fun e w' ⟨h1, h2⟩ => ⟨⟨b.o, h1⟩, h2⟩
  · by_cases h1 : b.k.i = 0
    · have h := least_zb b.o (ba' b.k.n) a h0 w
      rw [leastK, if_neg h0, if_pos h1, h1]
      exact h.mono fun e w' ⟨h1, h2⟩ => ⟨⟨a.o, h1⟩, h2⟩
    · exact least_pos a b ha hb h0 h1 w
end Go.Proofs.YtjpopmgnhgancaaDoor
