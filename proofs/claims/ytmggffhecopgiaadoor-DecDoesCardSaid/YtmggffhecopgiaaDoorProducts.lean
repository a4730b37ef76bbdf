/- Package dec multiplies and divides. No condition beyond what the theorems state. -/
import Derived.Test.YtmggffhecopgiaaDoorSums
namespace Go.Proofs
open Go.Shelf Go.RowKit Go.Proofs.Wide
def MuI (w0 : World) (n k m l z a b c : Int) (listed : Array Bool) (A : Act) (w : World) : Prop := ∃ (s5 s12 s13 s14 s15 s16 s17 s18 s19 s20 s21 s22 s23 s24 s25 s26 : Value), A = { tmps := #[.agg #[.int .i64 (n), .int .i64 (k)], .agg #[.int .i64 (m), .int .i64 (l)], .pointer (some ⟨w0.heap.size, 0, none⟩), .pointer (some ⟨w0.heap.size + 1, 0, none⟩), .pointer (some ⟨w0.heap.size + 1 + 1, 0, none⟩), s5, .agg #[.int .i64 (n), .int .i64 (k)], .agg #[.int .i64 (m), .int .i64 (l)], .slice (some ⟨w0.heap.size + 1 + 1 + 1, 0, none⟩) 2 2, .bool true, .bool false, undef, s12, s13, s14, s15, s16, s17, s18, s19, s20, s21, s22, s23, s24, s25, s26], defers := [] } ∧
  (listed.getD 0 false = true → s12 = .pointer (some ⟨w0.heap.size, 0, none⟩)) ∧
  (listed.getD 1 false = true → s13 = .int .i64 (n)) ∧
  (listed.getD 2 false = true → s14 = .agg #[.int .u64 (hi n), .int .u64 (lo n)]) ∧
  (listed.getD 3 false = true → s15 = .pointer (some ⟨w0.heap.size + 1, 0, none⟩)) ∧
  (listed.getD 4 false = true → s16 = .int .i64 (m)) ∧
  (listed.getD 5 false = true → s17 = .agg #[.int .u64 (hi m), .int .u64 (lo m)]) ∧
  (listed.getD 6 false = true → s18 = .agg #[.int .u64 (hi z), .int .u64 (lo z)]) ∧
  (listed.getD 7 false = true → s19 = .pointer (some ⟨w0.heap.size, 1, none⟩)) ∧
  (listed.getD 8 false = true → s20 = .int .i64 (k)) ∧
  (listed.getD 9 false = true → s21 = .pointer (some ⟨w0.heap.size + 1, 1, none⟩)) ∧
  (listed.getD 10 false = true → s22 = .int .i64 (l)) ∧
  (listed.getD 11 false = true → s23 = .int .i64 (k + l)) ∧
  (listed.getD 12 false = true → s24 = .tuple #[.agg #[.int .i64 a, .int .i64 b], .int .i64 c]) ∧
  (listed.getD 13 false = true → s25 = .agg #[.int .i64 a, .int .i64 b]) ∧
  (listed.getD 14 false = true → s26 = .int .i64 c) ∧
  (listed.getD 15 false = true → Own w (w0.heap.size + 1 + 1) (.int .i64 a) (.int .i64 b)) ∧
  (listed.getD 16 false = true → s5 = .int .i64 c) ∧
  Below w0.heap.size w0 w ∧
  Own w (w0.heap.size) (.int .i64 n) (.int .i64 k) ∧
  Own w (w0.heap.size + 1) (.int .i64 m) (.int .i64 l) ∧
  (∃ u v, Own w (w0.heap.size + 1 + 1) u v)

set_option maxHeartbeats 4000000 in
theorem mul_core (n k m l z a b c : Int) (w0 : World) (hk : 0 ≤ k + l ∧ k + l ≤ 100)
    (HR : Hid (∀ (w : World) (t : TypeId) (g cap : Nat), g = w.heap.size → Calls Tryd.prog 9 #[.slice (some ⟨g, 0, none⟩) 2 cap] (w.alloc (.cells #[.int .i64 n, .int .i64 k, .int .i64 m, .int .i64 l] t)) fun e w' => e = .returned (.bool true) ∧
      Below (w.alloc (.cells #[.int .i64 n, .int .i64 k, .int .i64 m, .int .i64 l] t)).heap.size (w.alloc (.cells #[.int .i64 n, .int .i64 k, .int .i64 m, .int .i64 l] t)) w'))
    (H1 : Hid (Gives 33 #[.int .i64 n] (.agg #[.int .u64 (hi n), .int .u64 (lo n)])))
    (H2 : Hid (Gives 33 #[.int .i64 m] (.agg #[.int .u64 (hi m), .int .u64 (lo m)])))
    (H3 : Hid (Gives 46 #[.agg #[.int .u64 (hi n), .int .u64 (lo n)], .agg #[.int .u64 (hi m), .int .u64 (lo m)]] (.agg #[.int .u64 (hi z), .int .u64 (lo z)])))
    (H4 : Hid (Gives 32 #[.agg #[.int .u64 (hi z), .int .u64 (lo z)], .int .i64 (k + l)] (.tuple #[.agg #[.int .i64 a, .int .i64 b], .int .i64 c]))) :
    Calls Tryd.prog 20 #[nv n k, nv m l] w0 fun e w' => e = .returned (.tuple #[.agg #[.int .i64 a, .int .i64 b], .int .i64 c]) ∧ Below w0.heap.size w0 w' := by
  unfold nv
  obtain ⟨k1, k2⟩ := hk
  have ww : IntKind.i64.wrap (k + l) = k + l := by rw [IntKind.wrap_i64]; omega
  go_enter Tryd.func20, Tryd.ntmps20
  go_upto_region 3 with (first
    | (go_at_call 9; refine (HR.out _ _ _ _ (by simp)).mono ?_; rintro e w1 ⟨rfl, hb1⟩; obtain ⟨hc1, hf1⟩ := bcell hb1; have z1 : w0.heap.size + 1 + 1 < w1.heap.size := zz hb1 (by first | assumption | (simp; done) | (simp; omega)); have y1 : w0.heap.size + 1 < w1.heap.size := (by omega); have x1 : w0.heap.size < w1.heap.size := (by omega)))
  clear hc1 hf1
  refine wp_region_inv (by kernel_rfl) (by kernel_rfl) (MuI w0 n k m l z a b c) ?_ ?_ ?_
  · exact ⟨_, _, _, _, _, _, _, _, _, _, _, _, _, _, _, _, rfl, fun h => absurd h l0, fun h => absurd h l0, fun h => absurd h l0, fun h => absurd h l0, fun h => absurd h l0, fun h => absurd h l0, fun h => absurd h l0, fun h => absurd h l0, fun h => absurd h l0, fun h => absurd h l0, fun h => absurd h l0, fun h => absurd h l0, fun h => absurd h l0, fun h => absurd h l0, fun h => absurd h l0, fun h => absurd h l0, fun h => absurd h l0, bdr (bt (ba (ba (ba (ba (Below.refl _ _))))) hb1), ((((Own.new_at (by simp)).alloc _).alloc _).alloc _).call hb1 |>.drew, (((Own.new_at (by simp)).alloc _).alloc _).call hb1 |>.drew, ⟨_, _, ((Own.new_at (by simp)).alloc _).call hb1 |>.drew⟩⟩
  · intro i o listed A w hi ho hd hn hI
    obtain ⟨s5, s12, s13, s14, s15, s16, s17, s18, s19, s20, s21, s22, s23, s24, s25, s26, rfl, F0, F1, F2, F3, F4, F5, F6, F7, F8, F9, F10, F11, F12, F13, F14, F15, F16, F17, F18, F19, F20⟩ := hI
    have hi' : i < 17 := hi
    clear hi
    rcases (by omega : i = 0 ∨ i = 1 ∨ i = 2 ∨ i = 3 ∨ i = 4 ∨ i = 5 ∨ i = 6 ∨ i = 7 ∨ i = 8 ∨ i = 9 ∨ i = 10 ∨ i = 11 ∨ i = 12 ∨ i = 13 ∨ i = 14 ∨ i = 15 ∨ i = 16) with rfl | rfl | rfl | rfl | rfl | rfl | rfl | rfl | rfl | rfl | rfl | rfl | rfl | rfl | rfl | rfl | rfl
    · simp only [List.getElem?_toArray, List.getElem?_cons_zero, Option.some.injEq] at ho
      subst ho
      refine wpOp_step rfl (fun K hK => ?_)
      go_simp
      refine hK _ _ ?_
      exact ⟨_, _, _, _, _, _, _, _, _, _, _, _, _, _, _, _, rfl, fun _ => rfl, fun h => F1 (ls (by decide) h), fun h => F2 (ls (by decide) h), fun h => F3 (ls (by decide) h), fun h => F4 (ls (by decide) h), fun h => F5 (ls (by decide) h), fun h => F6 (ls (by decide) h), fun h => F7 (ls (by decide) h), fun h => F8 (ls (by decide) h), fun h => F9 (ls (by decide) h), fun h => F10 (ls (by decide) h), fun h => F11 (ls (by decide) h), fun h => F12 (ls (by decide) h), fun h => F13 (ls (by decide) h), fun h => F14 (ls (by decide) h), fun h => F15 (ls (by decide) h), fun h => F16 (ls (by decide) h), F17, F18, F19, F20⟩
    · simp only [List.getElem?_toArray, List.getElem?_cons_zero, List.getElem?_cons_succ, Option.some.injEq] at ho
      subst ho
      obtain rfl := F0 (hd ⟨0, .data⟩ (by simp) rfl)
      have O'0 := F18; obtain ⟨_, _, _, _⟩ := O'0
      refine wpOp_step rfl (fun K hK => ?_)
      go_simp
      refine hK _ _ ?_
      exact ⟨_, _, _, _, _, _, _, _, _, _, _, _, _, _, _, _, rfl, fun h => F0 (ls (by decide) h), fun _ => rfl, fun h => F2 (ls (by decide) h), fun h => F3 (ls (by decide) h), fun h => F4 (ls (by decide) h), fun h => F5 (ls (by decide) h), fun h => F6 (ls (by decide) h), fun h => F7 (ls (by decide) h), fun h => F8 (ls (by decide) h), fun h => F9 (ls (by decide) h), fun h => F10 (ls (by decide) h), fun h => F11 (ls (by decide) h), fun h => F12 (ls (by decide) h), fun h => F13 (ls (by decide) h), fun h => F14 (ls (by decide) h), fun h => F15 (ls (by decide) h), fun h => F16 (ls (by decide) h), F17, F18, F19, F20⟩
    · simp only [List.getElem?_toArray, List.getElem?_cons_zero, List.getElem?_cons_succ, Option.some.injEq] at ho
      subst ho
      obtain rfl := F1 (hd ⟨1, .data⟩ (by simp) rfl)
      refine wpOp_step rfl (fun K hK => ?_)
      go_simp
      go_at_call 33; refine (H1.out.call _).mono ?_; rintro e w' ⟨rfl, hb⟩
      refine hK _ _ ?_
      exact ⟨_, _, _, _, _, _, _, _, _, _, _, _, _, _, _, _, rfl, fun h => F0 (ls (by decide) h), fun h => F1 (ls (by decide) h), fun _ => rfl, fun h => F3 (ls (by decide) h), fun h => F4 (ls (by decide) h), fun h => F5 (ls (by decide) h), fun h => F6 (ls (by decide) h), fun h => F7 (ls (by decide) h), fun h => F8 (ls (by decide) h), fun h => F9 (ls (by decide) h), fun h => F10 (ls (by decide) h), fun h => F11 (ls (by decide) h), fun h => F12 (ls (by decide) h), fun h => F13 (ls (by decide) h), fun h => F14 (ls (by decide) h), fun h => ((F15 (ls (by decide) h))).call hb, fun h => F16 (ls (by decide) h), bt F17 hb, (F18).call hb, (F19).call hb, (let ⟨u, v, c⟩ := F20; ⟨u, v, (c).call hb⟩)⟩
    · simp only [List.getElem?_toArray, List.getElem?_cons_zero, List.getElem?_cons_succ, Option.some.injEq] at ho
      subst ho
      refine wpOp_step rfl (fun K hK => ?_)
      go_simp
      refine hK _ _ ?_
      exact ⟨_, _, _, _, _, _, _, _, _, _, _, _, _, _, _, _, rfl, fun h => F0 (ls (by decide) h), fun h => F1 (ls (by decide) h), fun h => F2 (ls (by decide) h), fun _ => rfl, fun h => F4 (ls (by decide) h), fun h => F5 (ls (by decide) h), fun h => F6 (ls (by decide) h), fun h => F7 (ls (by decide) h), fun h => F8 (ls (by decide) h), fun h => F9 (ls (by decide) h), fun h => F10 (ls (by decide) h), fun h => F11 (ls (by decide) h), fun h => F12 (ls (by decide) h), fun h => F13 (ls (by decide) h), fun h => F14 (ls (by decide) h), fun h => F15 (ls (by decide) h), fun h => F16 (ls (by decide) h), F17, F18, F19, F20⟩
    · simp only [List.getElem?_toArray, List.getElem?_cons_zero, List.getElem?_cons_succ, Option.some.injEq] at ho
      subst ho
      obtain rfl := F3 (hd ⟨3, .data⟩ (by simp) rfl)
      have O'1 := F19; obtain ⟨_, _, _, _⟩ := O'1
      refine wpOp_step rfl (fun K hK => ?_)
      go_simp
      refine hK _ _ ?_
      exact ⟨_, _, _, _, _, _, _, _, _, _, _, _, _, _, _, _, rfl, fun h => F0 (ls (by decide) h), fun h => F1 (ls (by decide) h), fun h => F2 (ls (by decide) h), fun h => F3 (ls (by decide) h), fun _ => rfl, fun h => F5 (ls (by decide) h), fun h => F6 (ls (by decide) h), fun h => F7 (ls (by decide) h), fun h => F8 (ls (by decide) h), fun h => F9 (ls (by decide) h), fun h => F10 (ls (by decide) h), fun h => F11 (ls (by decide) h), fun h => F12 (ls (by decide) h), fun h => F13 (ls (by decide) h), fun h => F14 (ls (by decide) h), fun h => F15 (ls (by decide) h), fun h => F16 (ls (by decide) h), F17, F18, F19, F20⟩
    · simp only [List.getElem?_toArray, List.getElem?_cons_zero, List.getElem?_cons_succ, Option.some.injEq] at ho
      subst ho
      obtain rfl := F4 (hd ⟨4, .data⟩ (by simp) rfl)
      refine wpOp_step rfl (fun K hK => ?_)
      go_simp
      go_at_call 33; refine (H2.out.call _).mono ?_; rintro e w' ⟨rfl, hb⟩
      refine hK _ _ ?_
      exact ⟨_, _, _, _, _, _, _, _, _, _, _, _, _, _, _, _, rfl, fun h => F0 (ls (by decide) h), fun h => F1 (ls (by decide) h), fun h => F2 (ls (by decide) h), fun h => F3 (ls (by decide) h), fun h => F4 (ls (by decide) h), fun _ => rfl, fun h => F6 (ls (by decide) h), fun h => F7 (ls (by decide) h), fun h => F8 (ls (by decide) h), fun h => F9 (ls (by decide) h), fun h => F10 (ls (by decide) h), fun h => F11 (ls (by decide) h), fun h => F12 (ls (by decide) h), fun h => F13 (ls (by decide) h), fun h => F14 (ls (by decide) h), fun h => ((F15 (ls (by decide) h))).call hb, fun h => F16 (ls (by decide) h), bt F17 hb, (F18).call hb, (F19).call hb, (let ⟨u, v, c⟩ := F20; ⟨u, v, (c).call hb⟩)⟩
    · simp only [List.getElem?_toArray, List.getElem?_cons_zero, List.getElem?_cons_succ, Option.some.injEq] at ho
      subst ho
      obtain rfl := F2 (hd ⟨2, .data⟩ (by simp) rfl)
      obtain rfl := F5 (hd ⟨5, .data⟩ (by simp) rfl)
      refine wpOp_step rfl (fun K hK => ?_)
      go_simp
      go_at_call 46; refine (H3.out.call _).mono ?_; rintro e w' ⟨rfl, hb⟩
      refine hK _ _ ?_
      exact ⟨_, _, _, _, _, _, _, _, _, _, _, _, _, _, _, _, rfl, fun h => F0 (ls (by decide) h), fun h => F1 (ls (by decide) h), fun h => F2 (ls (by decide) h), fun h => F3 (ls (by decide) h), fun h => F4 (ls (by decide) h), fun h => F5 (ls (by decide) h), fun _ => rfl, fun h => F7 (ls (by decide) h), fun h => F8 (ls (by decide) h), fun h => F9 (ls (by decide) h), fun h => F10 (ls (by decide) h), fun h => F11 (ls (by decide) h), fun h => F12 (ls (by decide) h), fun h => F13 (ls (by decide) h), fun h => F14 (ls (by decide) h), fun h => ((F15 (ls (by decide) h))).call hb, fun h => F16 (ls (by decide) h), bt F17 hb, (F18).call hb, (F19).call hb, (let ⟨u, v, c⟩ := F20; ⟨u, v, (c).call hb⟩)⟩
    · simp only [List.getElem?_toArray, List.getElem?_cons_zero, List.getElem?_cons_succ, Option.some.injEq] at ho
      subst ho
      refine wpOp_step rfl (fun K hK => ?_)
      go_simp
      refine hK _ _ ?_
      exact ⟨_, _, _, _, _, _, _, _, _, _, _, _, _, _, _, _, rfl, fun h => F0 (ls (by decide) h), fun h => F1 (ls (by decide) h), fun h => F2 (ls (by decide) h), fun h => F3 (ls (by decide) h), fun h => F4 (ls (by decide) h), fun h => F5 (ls (by decide) h), fun h => F6 (ls (by decide) h), fun _ => rfl, fun h => F8 (ls (by decide) h), fun h => F9 (ls (by decide) h), fun h => F10 (ls (by decide) h), fun h => F11 (ls (by decide) h), fun h => F12 (ls (by decide) h), fun h => F13 (ls (by decide) h), fun h => F14 (ls (by decide) h), fun h => F15 (ls (by decide) h), fun h => F16 (ls (by decide) h), F17, F18, F19, F20⟩
    · simp only [List.getElem?_toArray, List.getElem?_cons_zero, List.getElem?_cons_succ, Option.some.injEq] at ho
      subst ho
      obtain rfl := F7 (hd ⟨7, .data⟩ (by simp) rfl)
      have O'0 := F18; obtain ⟨_, _, _, _⟩ := O'0
      refine wpOp_step rfl (fun K hK => ?_)
      go_simp
      refine hK _ _ ?_
      exact ⟨_, _, _, _, _, _, _, _, _, _, _, _, _, _, _, _, rfl, fun h => F0 (ls (by decide) h), fun h => F1 (ls (by decide) h), fun h => F2 (ls (by decide) h), fun h => F3 (ls (by decide) h), fun h => F4 (ls (by decide) h), fun h => F5 (ls (by decide) h), fun h => F6 (ls (by decide) h), fun h => F7 (ls (by decide) h), fun _ => rfl, fun h => F9 (ls (by decide) h), fun h => F10 (ls (by decide) h), fun h => F11 (ls (by decide) h), fun h => F12 (ls (by decide) h), fun h => F13 (ls (by decide) h), fun h => F14 (ls (by decide) h), fun h => F15 (ls (by decide) h), fun h => F16 (ls (by decide) h), F17, F18, F19, F20⟩
    · simp only [List.getElem?_toArray, List.getElem?_cons_zero, List.getElem?_cons_succ, Option.some.injEq] at ho
      subst ho
      refine wpOp_step rfl (fun K hK => ?_)
      go_simp
      refine hK _ _ ?_
      exact ⟨_, _, _, _, _, _, _, _, _, _, _, _, _, _, _, _, rfl, fun h => F0 (ls (by decide) h), fun h => F1 (ls (by decide) h), fun h => F2 (ls (by decide) h), fun h => F3 (ls (by decide) h), fun h => F4 (ls (by decide) h), fun h => F5 (ls (by decide) h), fun h => F6 (ls (by decide) h), fun h => F7 (ls (by decide) h), fun h => F8 (ls (by decide) h), fun _ => rfl, fun h => F10 (ls (by decide) h), fun h => F11 (ls (by decide) h), fun h => F12 (ls (by decide) h), fun h => F13 (ls (by decide) h), fun h => F14 (ls (by decide) h), fun h => F15 (ls (by decide) h), fun h => F16 (ls (by decide) h), F17, F18, F19, F20⟩
    · simp only [List.getElem?_toArray, List.getElem?_cons_zero, List.getElem?_cons_succ, Option.some.injEq] at ho
      subst ho
      obtain rfl := F9 (hd ⟨9, .data⟩ (by simp) rfl)
      have O'1 := F19; obtain ⟨_, _, _, _⟩ := O'1
      refine wpOp_step rfl (fun K hK => ?_)
      go_simp
      refine hK _ _ ?_
      exact ⟨_, _, _, _, _, _, _, _, _, _, _, _, _, _, _, _, rfl, fun h => F0 (ls (by decide) h), fun h => F1 (ls (by decide) h), fun h => F2 (ls (by decide) h), fun h => F3 (ls (by decide) h), fun h => F4 (ls (by decide) h), fun h => F5 (ls (by decide) h), fun h => F6 (ls (by decide) h), fun h => F7 (ls (by decide) h), fun h => F8 (ls (by decide) h), fun h => F9 (ls (by decide) h), fun _ => rfl, fun h => F11 (ls (by decide) h), fun h => F12 (ls (by decide) h), fun h => F13 (ls (by decide) h), fun h => F14 (ls (by decide) h), fun h => F15 (ls (by decide) h), fun h => F16 (ls (by decide) h), F17, F18, F19, F20⟩
    · simp only [List.getElem?_toArray, List.getElem?_cons_zero, List.getElem?_cons_succ, Option.some.injEq] at ho
      subst ho
      obtain rfl := F8 (hd ⟨8, .data⟩ (by simp) rfl)
      obtain rfl := F10 (hd ⟨10, .data⟩ (by simp) rfl)
      refine wpOp_step rfl (fun K hK => ?_)
      go_simp
      refine hK _ _ ?_
      exact ⟨_, _, _, _, _, _, _, _, _, _, _, _, _, _, _, _, rfl, fun h => F0 (ls (by decide) h), fun h => F1 (ls (by decide) h), fun h => F2 (ls (by decide) h), fun h => F3 (ls (by decide) h), fun h => F4 (ls (by decide) h), fun h => F5 (ls (by decide) h), fun h => F6 (ls (by decide) h), fun h => F7 (ls (by decide) h), fun h => F8 (ls (by decide) h), fun h => F9 (ls (by decide) h), fun h => F10 (ls (by decide) h), fun _ => rfl, fun h => F12 (ls (by decide) h), fun h => F13 (ls (by decide) h), fun h => F14 (ls (by decide) h), fun h => F15 (ls (by decide) h), fun h => F16 (ls (by decide) h), F17, F18, F19, F20⟩
    · simp only [List.getElem?_toArray, List.getElem?_cons_zero, List.getElem?_cons_succ, Option.some.injEq] at ho
      subst ho
      obtain rfl := F6 (hd ⟨6, .data⟩ (by simp) rfl)
      obtain rfl := F11 (hd ⟨11, .data⟩ (by simp) rfl)
      refine wpOp_step rfl (fun K hK => ?_)
      go_simp
      go_at_call 32; refine (H4.out.call _).mono ?_; rintro e w' ⟨rfl, hb⟩
      refine hK _ _ ?_
      exact ⟨_, _, _, _, _, _, _, _, _, _, _, _, _, _, _, _, rfl, fun h => F0 (ls (by decide) h), fun h => F1 (ls (by decide) h), fun h => F2 (ls (by decide) h), fun h => F3 (ls (by decide) h), fun h => F4 (ls (by decide) h), fun h => F5 (ls (by decide) h), fun h => F6 (ls (by decide) h), fun h => F7 (ls (by decide) h), fun h => F8 (ls (by decide) h), fun h => F9 (ls (by decide) h), fun h => F10 (ls (by decide) h), fun h => F11 (ls (by decide) h), fun _ => rfl, fun h => F13 (ls (by decide) h), fun h => F14 (ls (by decide) h), fun h => ((F15 (ls (by decide) h))).call hb, fun h => F16 (ls (by decide) h), bt F17 hb, (F18).call hb, (F19).call hb, (let ⟨u, v, c⟩ := F20; ⟨u, v, (c).call hb⟩)⟩
    · simp only [List.getElem?_toArray, List.getElem?_cons_zero, List.getElem?_cons_succ, Option.some.injEq] at ho
      subst ho
      obtain rfl := F12 (hd ⟨12, .data⟩ (by simp) rfl)
      refine wpOp_step rfl (fun K hK => ?_)
      go_simp
      refine hK _ _ ?_
      exact ⟨_, _, _, _, _, _, _, _, _, _, _, _, _, _, _, _, rfl, fun h => F0 (ls (by decide) h), fun h => F1 (ls (by decide) h), fun h => F2 (ls (by decide) h), fun h => F3 (ls (by decide) h), fun h => F4 (ls (by decide) h), fun h => F5 (ls (by decide) h), fun h => F6 (ls (by decide) h), fun h => F7 (ls (by decide) h), fun h => F8 (ls (by decide) h), fun h => F9 (ls (by decide) h), fun h => F10 (ls (by decide) h), fun h => F11 (ls (by decide) h), fun h => F12 (ls (by decide) h), fun _ => rfl, fun h => F14 (ls (by decide) h), fun h => F15 (ls (by decide) h), fun h => F16 (ls (by decide) h), F17, F18, F19, F20⟩
    · simp only [List.getElem?_toArray, List.getElem?_cons_zero, List.getElem?_cons_succ, Option.some.injEq] at ho
      subst ho
      obtain rfl := F12 (hd ⟨12, .data⟩ (by simp) rfl)
      refine wpOp_step rfl (fun K hK => ?_)
      go_simp
      refine hK _ _ ?_
      exact ⟨_, _, _, _, _, _, _, _, _, _, _, _, _, _, _, _, rfl, fun h => F0 (ls (by decide) h), fun h => F1 (ls (by decide) h), fun h => F2 (ls (by decide) h), fun h => F3 (ls (by decide) h), fun h => F4 (ls (by decide) h), fun h => F5 (ls (by decide) h), fun h => F6 (ls (by decide) h), fun h => F7 (ls (by decide) h), fun h => F8 (ls (by decide) h), fun h => F9 (ls (by decide) h), fun h => F10 (ls (by decide) h), fun h => F11 (ls (by decide) h), fun h => F12 (ls (by decide) h), fun h => F13 (ls (by decide) h), fun _ => rfl, fun h => F15 (ls (by decide) h), fun h => F16 (ls (by decide) h), F17, F18, F19, F20⟩
    · simp only [List.getElem?_toArray, List.getElem?_cons_zero, List.getElem?_cons_succ, Option.some.injEq] at ho
      subst ho
      obtain rfl := F13 (hd ⟨13, .data⟩ (by simp) rfl)
      obtain ⟨u'2, v'2, O'2⟩ := F20; have O''2 := O'2; obtain ⟨_, _, _, _⟩ := O''2
      refine wpOp_step rfl (fun K hK => ?_)
      go_simp
      refine hK _ _ ?_
      exact ⟨_, _, _, _, _, _, _, _, _, _, _, _, _, _, _, _, rfl, fun h => F0 (ls (by decide) h), fun h => F1 (ls (by decide) h), fun h => F2 (ls (by decide) h), fun h => F3 (ls (by decide) h), fun h => F4 (ls (by decide) h), fun h => F5 (ls (by decide) h), fun h => F6 (ls (by decide) h), fun h => F7 (ls (by decide) h), fun h => F8 (ls (by decide) h), fun h => F9 (ls (by decide) h), fun h => F10 (ls (by decide) h), fun h => F11 (ls (by decide) h), fun h => F12 (ls (by decide) h), fun h => F13 (ls (by decide) h), fun h => F14 (ls (by decide) h), fun _ => O'2.store _ _, fun h => F16 (ls (by decide) h), bs (bs F17 (by first | (simp; done) | (simp; omega))) (by first | (simp; done) | (simp; omega)), ((F18).set_ (by first | (simp; done) | (simp; omega))).set_ (by first | (simp; done) | (simp; omega)), ((F19).set_ (by first | (simp; done) | (simp; omega))).set_ (by first | (simp; done) | (simp; omega)), ⟨_, _, O'2.store _ _⟩⟩
    · simp only [List.getElem?_toArray, List.getElem?_cons_zero, List.getElem?_cons_succ, Option.some.injEq] at ho
      subst ho
      obtain rfl := F14 (hd ⟨14, .data⟩ (by simp) rfl)
      refine wpOp_step rfl (fun K hK => ?_)
      go_simp
      refine hK _ _ ?_
      exact ⟨_, _, _, _, _, _, _, _, _, _, _, _, _, _, _, _, rfl, fun h => F0 (ls (by decide) h), fun h => F1 (ls (by decide) h), fun h => F2 (ls (by decide) h), fun h => F3 (ls (by decide) h), fun h => F4 (ls (by decide) h), fun h => F5 (ls (by decide) h), fun h => F6 (ls (by decide) h), fun h => F7 (ls (by decide) h), fun h => F8 (ls (by decide) h), fun h => F9 (ls (by decide) h), fun h => F10 (ls (by decide) h), fun h => F11 (ls (by decide) h), fun h => F12 (ls (by decide) h), fun h => F13 (ls (by decide) h), fun h => F14 (ls (by decide) h), fun h => F15 (ls (by decide) h), fun _ => rfl, F17, F18, F19, F20⟩
  · intro listed A w hall hI
    obtain ⟨s5, s12, s13, s14, s15, s16, s17, s18, s19, s20, s21, s22, s23, s24, s25, s26, rfl, F0, F1, F2, F3, F4, F5, F6, F7, F8, F9, F10, F11, F12, F13, F14, F15, F16, F17, F18, F19, F20⟩ := hI
    obtain rfl := F0 (hall 0 (by decide))
    obtain rfl := F1 (hall 1 (by decide))
    obtain rfl := F2 (hall 2 (by decide))
    obtain rfl := F3 (hall 3 (by decide))
    obtain rfl := F4 (hall 4 (by decide))
    obtain rfl := F5 (hall 5 (by decide))
    obtain rfl := F6 (hall 6 (by decide))
    obtain rfl := F7 (hall 7 (by decide))
    obtain rfl := F8 (hall 8 (by decide))
    obtain rfl := F9 (hall 9 (by decide))
    obtain rfl := F10 (hall 10 (by decide))
    obtain rfl := F11 (hall 11 (by decide))
    obtain rfl := F12 (hall 12 (by decide))
    obtain rfl := F13 (hall 13 (by decide))
    obtain rfl := F14 (hall 14 (by decide))
    obtain rfl := F16 (hall 16 (by decide))
    have P15 := F15 (hall 15 (by decide))
    have HB := F17
    have B0 := F18
    have B1 := F19
    have B2 := F20
    clear hall F15 F17 F18 F19 F20 F0 F1 F2 F3 F4 F5 F6 F7 F8 F9 F10 F11 F12 F13 F14 F16
    try dsimp only

    obtain ⟨_, _, _, _⟩ := P15
    go_wp2
    exact bodyPost_ret (v := .tuple #[.agg #[.int .i64 a, .int .i64 b], .int .i64 c]) (by simp [results, Tryd.results20, go_sem, *]) rfl ⟨rfl, HB⟩
theorem mul_any (n m : Int) (k l : Nat) (h : RightZ n k) (h' : RightZ m l) (w0 : World) :
    Calls Tryd.prog 20 #[nv n k, nv m l] w0 fun e w' => e = .returned (outV (mulZ n k m l)) ∧ Below w0.heap.size w0 w' := by
  obtain ⟨i1, i2⟩ := rz_inI h
  obtain ⟨i3, i4⟩ := rz_inI h'
  have b := mul_bd n (if m < 0 then -m else m) 999999999999999999 999999999999999999 ⟨h.1, h.2.1⟩ (by have := h'.1; have := h'.2.1; split <;> omega)
  have b' : -999999999999999998000000000000000001 ≤ n * m ∧ n * m ≤ 999999999999999998000000000000000001 := by
    by_cases hm : m < 0
    · rw [if_pos hm, Int.mul_neg] at b; omega
    · rw [if_neg hm] at b; omega
  have hk := h.2.2.1
  have hl := h'.2.2.1
  refine mul_core n k m l (n * m) _ _ _ w0 (by omega) (Lib.hid fun w t g cap hg => ?_) (gives_unfold fun w => wideOf_any n i1.1 i1.2 w) (gives_unfold fun w => wideOf_any m i3.1 i3.2 w) (gives_unfold fun w => times_any n m w)
    (gives_unfold fun w => ?_)
  · have := right_two n k m l i1 i2 i3 i4 w t g cap hg
    rw [rightB_of h, rightB_of h'] at this
    exact this
  · have := fit_any (n * m) (k + l) (by omega) (by omega) (by omega) w
    rw [Int.natCast_add] at this
    exact this
def DaI (w0 : World) (n k m l x p : Int) (listed : Array Bool) (A : Act) (w : World) : Prop := ∃ (s7 s17 s18 s19 s20 s21 s22 s23 s24 s25 s26 s27 : Value) (g7 : Nat), A = { tmps := #[.agg #[.int .i64 (n), .int .i64 (k)], .agg #[.int .i64 (m), .int .i64 (l)], .pointer (some ⟨w0.heap.size, 0, none⟩), .pointer (some ⟨w0.heap.size + 1, 0, none⟩), .pointer (some ⟨w0.heap.size + 1 + 1, 0, none⟩), .int .i64 (0), .int .i64 (0), s7, undef, undef, .agg #[.int .i64 (n), .int .i64 (k)], .agg #[.int .i64 (m), .int .i64 (l)], .int .i64 (0), .int .i64 (0), .bool false, undef, undef, s17, s18, s19, s20, s21, s22, s23, s24, s25, s26, s27, undef, undef, undef, undef, undef, undef, undef, undef, undef, undef, undef, undef], defers := [] } ∧
  (listed.getD 0 false = true → s17 = .pointer (some ⟨w0.heap.size, 0, none⟩)) ∧
  (listed.getD 1 false = true → s18 = .int .i64 (n)) ∧
  (listed.getD 2 false = true → s19 = .agg #[.int .u64 (hi n), .int .u64 (lo n)]) ∧
  (listed.getD 3 false = true → s20 = .pointer (some ⟨w0.heap.size + 1, 1, none⟩)) ∧
  (listed.getD 4 false = true → s21 = .int .i64 (l)) ∧
  (listed.getD 5 false = true → s22 = .int .i64 (9 + l)) ∧
  (listed.getD 6 false = true → s23 = .pointer (some ⟨w0.heap.size, 1, none⟩)) ∧
  (listed.getD 7 false = true → s24 = .int .i64 (k)) ∧
  (listed.getD 8 false = true → s25 = .int .i64 (9 + l - k)) ∧
  (listed.getD 9 false = true → s26 = .agg #[.int .u64 (hi p), .int .u64 (lo p)]) ∧
  (listed.getD 10 false = true → s27 = .agg #[.int .u64 (hi x), .int .u64 (lo x)]) ∧
  (listed.getD 11 false = true → s7 = .pointer (some ⟨g7, 0, none⟩) ∧ w0.heap.size + 1 + 1 < g7 ∧ ∃ u v, Own w g7 u v) ∧
  (listed.getD 12 false = true → listed.getD 11 false = true ∧ Own w g7 (.int .u64 (hi x)) (.int .u64 (lo x))) ∧
  Below w0.heap.size w0 w ∧
  Own w (w0.heap.size) (.int .i64 n) (.int .i64 k) ∧
  Own w (w0.heap.size + 1) (.int .i64 m) (.int .i64 l) ∧
  (∃ u v, Own w (w0.heap.size + 1 + 1) u v)
def DbI (w0 : World) (n k m l x p q r : Int) (g7 : Nat) (listed : Array Bool) (A : Act) (w : World) : Prop := ∃ (s8 s9 s28 s29 s30 s31 s32 s33 s34 s35 : Value) (g8 g9 : Nat), A = { tmps := #[.agg #[.int .i64 (n), .int .i64 (k)], .agg #[.int .i64 (m), .int .i64 (l)], .pointer (some ⟨w0.heap.size, 0, none⟩), .pointer (some ⟨w0.heap.size + 1, 0, none⟩), .pointer (some ⟨w0.heap.size + 1 + 1, 0, none⟩), .int .i64 (0), .int .i64 (0), .pointer (some ⟨g7, 0, none⟩), s8, s9, .agg #[.int .i64 (n), .int .i64 (k)], .agg #[.int .i64 (m), .int .i64 (l)], .int .i64 (0), .int .i64 (0), .bool false, undef, undef, .pointer (some ⟨w0.heap.size, 0, none⟩), .int .i64 (n), .agg #[.int .u64 (hi n), .int .u64 (lo n)], .pointer (some ⟨w0.heap.size + 1, 1, none⟩), .int .i64 (l), .int .i64 (9 + l), .pointer (some ⟨w0.heap.size, 1, none⟩), .int .i64 (k), .int .i64 (9 + l - k), .agg #[.int .u64 (hi p), .int .u64 (lo p)], .agg #[.int .u64 (hi x), .int .u64 (lo x)], s28, s29, s30, s31, s32, s33, s34, s35, undef, undef, undef, undef], defers := [] } ∧
  (listed.getD 0 false = true → s29 = .agg #[.int .u64 (hi x), .int .u64 (lo x)]) ∧
  (listed.getD 1 false = true → s30 = .pointer (some ⟨w0.heap.size + 1, 0, none⟩)) ∧
  (listed.getD 2 false = true → s31 = .int .i64 (m)) ∧
  (listed.getD 3 false = true → s32 = .agg #[.int .u64 (hi m), .int .u64 (lo m)]) ∧
  (listed.getD 4 false = true → s33 = .tuple #[.agg #[.int .u64 (hi q), .int .u64 (lo q)], .agg #[.int .u64 (hi r), .int .u64 (lo r)]]) ∧
  (listed.getD 5 false = true → s28 = .tuple #[.agg #[.int .u64 (hi q), .int .u64 (lo q)], .agg #[.int .u64 (hi r), .int .u64 (lo r)]]) ∧
  (listed.getD 6 false = true → s34 = .agg #[.int .u64 (hi q), .int .u64 (lo q)]) ∧
  (listed.getD 7 false = true → s35 = .agg #[.int .u64 (hi r), .int .u64 (lo r)]) ∧
  (listed.getD 8 false = true → s8 = .pointer (some ⟨g8, 0, none⟩) ∧ g7 < g8 ∧ ∃ u v, Own w g8 u v) ∧
  (listed.getD 9 false = true → s9 = .pointer (some ⟨g9, 0, none⟩) ∧ g7 < g9 ∧ ∃ u v, Own w g9 u v) ∧
  (listed.getD 10 false = true → listed.getD 8 false = true ∧ Own w g8 (.int .u64 (hi q)) (.int .u64 (lo q))) ∧
  (listed.getD 11 false = true → listed.getD 9 false = true ∧ Own w g9 (.int .u64 (hi r)) (.int .u64 (lo r))) ∧
  (listed.getD 8 false = true → listed.getD 9 false = true → g8 ≠ g9) ∧
  Below w0.heap.size w0 w ∧
  Own w (w0.heap.size) (.int .i64 n) (.int .i64 k) ∧
  Own w (w0.heap.size + 1) (.int .i64 m) (.int .i64 l) ∧
  (∃ u v, Own w (w0.heap.size + 1 + 1) u v) ∧
  Own w (g7) (.int .u64 (hi x)) (.int .u64 (lo x))

set_option maxHeartbeats 8000000 in
theorem div_core (n k m l x p q r a b c : Int) (w0 : World) (hl : 0 ≤ l ∧ l ≤ 9) (hk : 0 ≤ k ∧ k ≤ 9)
    (V : Hid (Gives 47 #[.agg #[.int .i64 (n), .int .i64 (k)], .agg #[.int .i64 (m), .int .i64 (l)]] (.int .i64 0)))
    (H1 : Hid (Gives 33 #[.int .i64 n] (.agg #[.int .u64 (hi n), .int .u64 (lo n)])))
    (H2 : Hid (Gives 48 #[.int .i64 (9 + l - k)] (.agg #[.int .u64 (hi p), .int .u64 (lo p)])))
    (H3 : Hid (Gives 46 #[.agg #[.int .u64 (hi n), .int .u64 (lo n)], .agg #[.int .u64 (hi p), .int .u64 (lo p)]] (.agg #[.int .u64 (hi x), .int .u64 (lo x)])))
    (H4 : Hid (Gives 33 #[.int .i64 m] (.agg #[.int .u64 (hi m), .int .u64 (lo m)])))
    (H5 : Hid (Gives 49 #[.agg #[.int .u64 (hi x), .int .u64 (lo x)], .agg #[.int .u64 (hi m), .int .u64 (lo m)]] (.tuple #[.agg #[.int .u64 (hi q), .int .u64 (lo q)], .agg #[.int .u64 (hi r), .int .u64 (lo r)]])))
    (H6 : Hid (Gives 32 #[.agg #[.int .u64 (hi q), .int .u64 (lo q)], .int .i64 9] (.tuple #[.agg #[.int .i64 a, .int .i64 b], .int .i64 c]))) :
    Calls Tryd.prog 21 #[nv n k, nv m l] w0 fun e w' => e = .returned (.tuple #[.agg #[.int .i64 a, .int .i64 b], .int .i64 c]) ∧ Below w0.heap.size w0 w' := by
  unfold nv
  have ww1 : IntKind.i64.wrap (9 + l) = 9 + l := by rw [IntKind.wrap_i64]; omega
  have ww2 : IntKind.i64.wrap (9 + l - k) = 9 + l - k := by rw [IntKind.wrap_i64]; omega
  go_enter Tryd.func21, Tryd.ntmps21
  go_upto_region 4 with (first
    | (go_at_call 47; refine (V.out.call _).mono ?_; rintro e w1 ⟨rfl, hb1⟩; obtain ⟨hc1, hf1⟩ := bcell hb1; have z1 : w0.heap.size + 1 + 1 < w1.heap.size := zz hb1 (by first | assumption | (simp; done) | (simp; omega)); have y1 : w0.heap.size + 1 < w1.heap.size := (by omega); have x1 : w0.heap.size < w1.heap.size := (by omega)))
  clear hc1 hf1
  refine wp_region_inv (by kernel_rfl) (by kernel_rfl) (DaI w0 n k m l x p) ?_ ?_ ?_
  · exact ⟨_, _, _, _, _, _, _, _, _, _, _, _, 0, rfl, fun h => absurd h l0, fun h => absurd h l0, fun h => absurd h l0, fun h => absurd h l0, fun h => absurd h l0, fun h => absurd h l0, fun h => absurd h l0, fun h => absurd h l0, fun h => absurd h l0, fun h => absurd h l0, fun h => absurd h l0, fun h => absurd h l0, fun h => absurd h l0, bdr (bt (ba (ba (ba (Below.refl _ _)))) hb1), (((Own.new_at (by simp)).alloc _).alloc _).call hb1 |>.drew, ((Own.new_at (by simp)).alloc _).call hb1 |>.drew, ⟨_, _, (Own.new_at (by simp)).call hb1 |>.drew⟩⟩
  · intro i o listed A w hi ho hd hn hI
    obtain ⟨s7, s17, s18, s19, s20, s21, s22, s23, s24, s25, s26, s27, g7, rfl, F0, F1, F2, F3, F4, F5, F6, F7, F8, F9, F10, F11, F12, F13, F14, F15, F16⟩ := hI
    have hi' : i < 13 := hi
    clear hi
    rcases (by omega : i = 0 ∨ i = 1 ∨ i = 2 ∨ i = 3 ∨ i = 4 ∨ i = 5 ∨ i = 6 ∨ i = 7 ∨ i = 8 ∨ i = 9 ∨ i = 10 ∨ i = 11 ∨ i = 12) with rfl | rfl | rfl | rfl | rfl | rfl | rfl | rfl | rfl | rfl | rfl | rfl | rfl
    · simp only [List.getElem?_toArray, List.getElem?_cons_zero, Option.some.injEq] at ho
      subst ho
      refine wpOp_step rfl (fun K hK => ?_)
      go_simp
      refine hK _ _ ?_
      exact ⟨_, _, _, _, _, _, _, _, _, _, _, _, g7, rfl, fun _ => rfl, fun h => F1 (ls (by decide) h), fun h => F2 (ls (by decide) h), fun h => F3 (ls (by decide) h), fun h => F4 (ls (by decide) h), fun h => F5 (ls (by decide) h), fun h => F6 (ls (by decide) h), fun h => F7 (ls (by decide) h), fun h => F8 (ls (by decide) h), fun h => F9 (ls (by decide) h), fun h => F10 (ls (by decide) h), fun h => F11 (ls (by decide) h), fun h => let ⟨x, c⟩ := F12 (ls (by decide) h); ⟨la x, c⟩, F13, F14, F15, F16⟩
    · simp only [List.getElem?_toArray, List.getElem?_cons_zero, List.getElem?_cons_succ, Option.some.injEq] at ho
      subst ho
      obtain rfl := F0 (hd ⟨0, .data⟩ (by simp) rfl)
      have O'0 := F14; obtain ⟨_, _, _, _⟩ := O'0
      refine wpOp_step rfl (fun K hK => ?_)
      go_simp
      refine hK _ _ ?_
      exact ⟨_, _, _, _, _, _, _, _, _, _, _, _, g7, rfl, fun h => F0 (ls (by decide) h), fun _ => rfl, fun h => F2 (ls (by decide) h), fun h => F3 (ls (by decide) h), fun h => F4 (ls (by decide) h), fun h => F5 (ls (by decide) h), fun h => F6 (ls (by decide) h), fun h => F7 (ls (by decide) h), fun h => F8 (ls (by decide) h), fun h => F9 (ls (by decide) h), fun h => F10 (ls (by decide) h), fun h => F11 (ls (by decide) h), fun h => let ⟨x, c⟩ := F12 (ls (by decide) h); ⟨la x, c⟩, F13, F14, F15, F16⟩
    · simp only [List.getElem?_toArray, List.getElem?_cons_zero, List.getElem?_cons_succ, Option.some.injEq] at ho
      subst ho
      obtain rfl := F1 (hd ⟨1, .data⟩ (by simp) rfl)
      refine wpOp_step rfl (fun K hK => ?_)
      go_simp
      go_at_call 33; refine (H1.out.call _).mono ?_; rintro e w' ⟨rfl, hb⟩
      refine hK _ _ ?_
      exact ⟨_, _, _, _, _, _, _, _, _, _, _, _, g7, rfl, fun h => F0 (ls (by decide) h), fun h => F1 (ls (by decide) h), fun _ => rfl, fun h => F3 (ls (by decide) h), fun h => F4 (ls (by decide) h), fun h => F5 (ls (by decide) h), fun h => F6 (ls (by decide) h), fun h => F7 (ls (by decide) h), fun h => F8 (ls (by decide) h), fun h => F9 (ls (by decide) h), fun h => F10 (ls (by decide) h), fun h => let ⟨a, b, u, v, c⟩ := F11 (ls (by decide) h); ⟨a, b, u, v, (c).call hb⟩, fun h => let ⟨x, c⟩ := F12 (ls (by decide) h); ⟨la x, (c).call hb⟩, bt F13 hb, (F14).call hb, (F15).call hb, (let ⟨u, v, c⟩ := F16; ⟨u, v, (c).call hb⟩)⟩
    · simp only [List.getElem?_toArray, List.getElem?_cons_zero, List.getElem?_cons_succ, Option.some.injEq] at ho
      subst ho
      refine wpOp_step rfl (fun K hK => ?_)
      go_simp
      refine hK _ _ ?_
      exact ⟨_, _, _, _, _, _, _, _, _, _, _, _, g7, rfl, fun h => F0 (ls (by decide) h), fun h => F1 (ls (by decide) h), fun h => F2 (ls (by decide) h), fun _ => rfl, fun h => F4 (ls (by decide) h), fun h => F5 (ls (by decide) h), fun h => F6 (ls (by decide) h), fun h => F7 (ls (by decide) h), fun h => F8 (ls (by decide) h), fun h => F9 (ls (by decide) h), fun h => F10 (ls (by decide) h), fun h => F11 (ls (by decide) h), fun h => let ⟨x, c⟩ := F12 (ls (by decide) h); ⟨la x, c⟩, F13, F14, F15, F16⟩
    · simp only [List.getElem?_toArray, List.getElem?_cons_zero, List.getElem?_cons_succ, Option.some.injEq] at ho
      subst ho
      obtain rfl := F3 (hd ⟨3, .data⟩ (by simp) rfl)
      have O'1 := F15; obtain ⟨_, _, _, _⟩ := O'1
      refine wpOp_step rfl (fun K hK => ?_)
      go_simp
      refine hK _ _ ?_
      exact ⟨_, _, _, _, _, _, _, _, _, _, _, _, g7, rfl, fun h => F0 (ls (by decide) h), fun h => F1 (ls (by decide) h), fun h => F2 (ls (by decide) h), fun h => F3 (ls (by decide) h), fun _ => rfl, fun h => F5 (ls (by decide) h), fun h => F6 (ls (by decide) h), fun h => F7 (ls (by decide) h), fun h => F8 (ls (by decide) h), fun h => F9 (ls (by decide) h), fun h => F10 (ls (by decide) h), fun h => F11 (ls (by decide) h), fun h => let ⟨x, c⟩ := F12 (ls (by decide) h); ⟨la x, c⟩, F13, F14, F15, F16⟩
    · simp only [List.getElem?_toArray, List.getElem?_cons_zero, List.getElem?_cons_succ, Option.some.injEq] at ho
      subst ho
      obtain rfl := F4 (hd ⟨4, .data⟩ (by simp) rfl)
      refine wpOp_step rfl (fun K hK => ?_)
      go_simp
      refine hK _ _ ?_
      exact ⟨_, _, _, _, _, _, _, _, _, _, _, _, g7, rfl, fun h => F0 (ls (by decide) h), fun h => F1 (ls (by decide) h), fun h => F2 (ls (by decide) h), fun h => F3 (ls (by decide) h), fun h => F4 (ls (by decide) h), fun _ => rfl, fun h => F6 (ls (by decide) h), fun h => F7 (ls (by decide) h), fun h => F8 (ls (by decide) h), fun h => F9 (ls (by decide) h), fun h => F10 (ls (by decide) h), fun h => F11 (ls (by decide) h), fun h => let ⟨x, c⟩ := F12 (ls (by decide) h); ⟨la x, c⟩, F13, F14, F15, F16⟩
    · simp only [List.getElem?_toArray, List.getElem?_cons_zero, List.getElem?_cons_succ, Option.some.injEq] at ho
      subst ho
      refine wpOp_step rfl (fun K hK => ?_)
      go_simp
      refine hK _ _ ?_
      exact ⟨_, _, _, _, _, _, _, _, _, _, _, _, g7, rfl, fun h => F0 (ls (by decide) h), fun h => F1 (ls (by decide) h), fun h => F2 (ls (by decide) h), fun h => F3 (ls (by decide) h), fun h => F4 (ls (by decide) h), fun h => F5 (ls (by decide) h), fun _ => rfl, fun h => F7 (ls (by decide) h), fun h => F8 (ls (by decide) h), fun h => F9 (ls (by decide) h), fun h => F10 (ls (by decide) h), fun h => F11 (ls (by decide) h), fun h => let ⟨x, c⟩ := F12 (ls (by decide) h); ⟨la x, c⟩, F13, F14, F15, F16⟩
    · simp only [List.getElem?_toArray, List.getElem?_cons_zero, List.getElem?_cons_succ, Option.some.injEq] at ho
      subst ho
      obtain rfl := F6 (hd ⟨6, .data⟩ (by simp) rfl)
      have O'0 := F14; obtain ⟨_, _, _, _⟩ := O'0
      refine wpOp_step rfl (fun K hK => ?_)
      go_simp
      refine hK _ _ ?_
      exact ⟨_, _, _, _, _, _, _, _, _, _, _, _, g7, rfl, fun h => F0 (ls (by decide) h), fun h => F1 (ls (by decide) h), fun h => F2 (ls (by decide) h), fun h => F3 (ls (by decide) h), fun h => F4 (ls (by decide) h), fun h => F5 (ls (by decide) h), fun h => F6 (ls (by decide) h), fun _ => rfl, fun h => F8 (ls (by decide) h), fun h => F9 (ls (by decide) h), fun h => F10 (ls (by decide) h), fun h => F11 (ls (by decide) h), fun h => let ⟨x, c⟩ := F12 (ls (by decide) h); ⟨la x, c⟩, F13, F14, F15, F16⟩
    · simp only [List.getElem?_toArray, List.getElem?_cons_zero, List.getElem?_cons_succ, Option.some.injEq] at ho
      subst ho
      obtain rfl := F5 (hd ⟨5, .data⟩ (by simp) rfl)
      obtain rfl := F7 (hd ⟨7, .data⟩ (by simp) rfl)
      refine wpOp_step rfl (fun K hK => ?_)
      go_simp
      refine hK _ _ ?_
      exact ⟨_, _, _, _, _, _, _, _, _, _, _, _, g7, rfl, fun h => F0 (ls (by decide) h), fun h => F1 (ls (by decide) h), fun h => F2 (ls (by decide) h), fun h => F3 (ls (by decide) h), fun h => F4 (ls (by decide) h), fun h => F5 (ls (by decide) h), fun h => F6 (ls (by decide) h), fun h => F7 (ls (by decide) h), fun _ => rfl, fun h => F9 (ls (by decide) h), fun h => F10 (ls (by decide) h), fun h => F11 (ls (by decide) h), fun h => let ⟨x, c⟩ := F12 (ls (by decide) h); ⟨la x, c⟩, F13, F14, F15, F16⟩
    · simp only [List.getElem?_toArray, List.getElem?_cons_zero, List.getElem?_cons_succ, Option.some.injEq] at ho
      subst ho
      obtain rfl := F8 (hd ⟨8, .data⟩ (by simp) rfl)
      refine wpOp_step rfl (fun K hK => ?_)
      go_simp
      go_at_call 48; refine (H2.out.call _).mono ?_; rintro e w' ⟨rfl, hb⟩
      refine hK _ _ ?_
      exact ⟨_, _, _, _, _, _, _, _, _, _, _, _, g7, rfl, fun h => F0 (ls (by decide) h), fun h => F1 (ls (by decide) h), fun h => F2 (ls (by decide) h), fun h => F3 (ls (by decide) h), fun h => F4 (ls (by decide) h), fun h => F5 (ls (by decide) h), fun h => F6 (ls (by decide) h), fun h => F7 (ls (by decide) h), fun h => F8 (ls (by decide) h), fun _ => rfl, fun h => F10 (ls (by decide) h), fun h => let ⟨a, b, u, v, c⟩ := F11 (ls (by decide) h); ⟨a, b, u, v, (c).call hb⟩, fun h => let ⟨x, c⟩ := F12 (ls (by decide) h); ⟨la x, (c).call hb⟩, bt F13 hb, (F14).call hb, (F15).call hb, (let ⟨u, v, c⟩ := F16; ⟨u, v, (c).call hb⟩)⟩
    · simp only [List.getElem?_toArray, List.getElem?_cons_zero, List.getElem?_cons_succ, Option.some.injEq] at ho
      subst ho
      obtain rfl := F2 (hd ⟨2, .data⟩ (by simp) rfl)
      obtain rfl := F9 (hd ⟨9, .data⟩ (by simp) rfl)
      refine wpOp_step rfl (fun K hK => ?_)
      go_simp
      go_at_call 46; refine (H3.out.call _).mono ?_; rintro e w' ⟨rfl, hb⟩
      refine hK _ _ ?_
      exact ⟨_, _, _, _, _, _, _, _, _, _, _, _, g7, rfl, fun h => F0 (ls (by decide) h), fun h => F1 (ls (by decide) h), fun h => F2 (ls (by decide) h), fun h => F3 (ls (by decide) h), fun h => F4 (ls (by decide) h), fun h => F5 (ls (by decide) h), fun h => F6 (ls (by decide) h), fun h => F7 (ls (by decide) h), fun h => F8 (ls (by decide) h), fun h => F9 (ls (by decide) h), fun _ => rfl, fun h => let ⟨a, b, u, v, c⟩ := F11 (ls (by decide) h); ⟨a, b, u, v, (c).call hb⟩, fun h => let ⟨x, c⟩ := F12 (ls (by decide) h); ⟨la x, (c).call hb⟩, bt F13 hb, (F14).call hb, (F15).call hb, (let ⟨u, v, c⟩ := F16; ⟨u, v, (c).call hb⟩)⟩
    · simp only [List.getElem?_toArray, List.getElem?_cons_zero, List.getElem?_cons_succ, Option.some.injEq] at ho
      subst ho
      refine wpOp_step rfl (fun K hK => ?_)
      go_simp
      refine hK _ _ ?_
      exact ⟨_, _, _, _, _, _, _, _, _, _, _, _, w.heap.size, rfl, fun h => F0 (ls (by decide) h), fun h => F1 (ls (by decide) h), fun h => F2 (ls (by decide) h), fun h => F3 (ls (by decide) h), fun h => F4 (ls (by decide) h), fun h => F5 (ls (by decide) h), fun h => F6 (ls (by decide) h), fun h => F7 (ls (by decide) h), fun h => F8 (ls (by decide) h), fun h => F9 (ls (by decide) h), fun h => F10 (ls (by decide) h), fun _ => ⟨rfl, (let ⟨_, _, c⟩ := F16; c.lt), _, _, Own.new _ _ _ _⟩, fun h => lc hn (F12 (ls (by decide) h)).1, ba F13, (F14).alloc _, (F15).alloc _, (let ⟨u, v, c⟩ := F16; ⟨u, v, (c).alloc _⟩)⟩
    · simp only [List.getElem?_toArray, List.getElem?_cons_zero, List.getElem?_cons_succ, Option.some.injEq] at ho
      subst ho
      obtain ⟨rfl, A11, u11, v11, O11⟩ := F11 (hd ⟨11, .data⟩ (by simp) rfl)
      have O11' := O11; obtain ⟨_, _, _, _⟩ := O11'
      obtain rfl := F10 (hd ⟨10, .data⟩ (by simp) rfl)
      refine wpOp_step rfl (fun K hK => ?_)
      go_simp
      refine hK _ _ ?_
      exact ⟨_, _, _, _, _, _, _, _, _, _, _, _, g7, rfl, fun h => F0 (ls (by decide) h), fun h => F1 (ls (by decide) h), fun h => F2 (ls (by decide) h), fun h => F3 (ls (by decide) h), fun h => F4 (ls (by decide) h), fun h => F5 (ls (by decide) h), fun h => F6 (ls (by decide) h), fun h => F7 (ls (by decide) h), fun h => F8 (ls (by decide) h), fun h => F9 (ls (by decide) h), fun h => F10 (ls (by decide) h), fun _ => ⟨rfl, A11, _, _, O11.store _ _⟩, fun _ => ⟨la (hd ⟨11, .data⟩ (by simp) rfl), O11.store _ _⟩, bs (bs F13 (by first | (simp; done) | (simp; omega))) (by first | (simp; done) | (simp; omega)), ((F14).set_ (by first | (simp; done) | (simp; omega))).set_ (by first | (simp; done) | (simp; omega)), ((F15).set_ (by first | (simp; done) | (simp; omega))).set_ (by first | (simp; done) | (simp; omega)), (let ⟨u, v, c⟩ := F16; ⟨u, v, (c.set_ (by first | (simp; done) | (simp; omega))).set_ (by first | (simp; done) | (simp; omega))⟩)⟩
  · intro listed A w hall hI
    obtain ⟨s7, s17, s18, s19, s20, s21, s22, s23, s24, s25, s26, s27, g7, rfl, F0, F1, F2, F3, F4, F5, F6, F7, F8, F9, F10, F11, F12, F13, F14, F15, F16⟩ := hI
    obtain rfl := F0 (hall 0 (by decide))
    obtain rfl := F1 (hall 1 (by decide))
    obtain rfl := F2 (hall 2 (by decide))
    obtain rfl := F3 (hall 3 (by decide))
    obtain rfl := F4 (hall 4 (by decide))
    obtain rfl := F5 (hall 5 (by decide))
    obtain rfl := F6 (hall 6 (by decide))
    obtain rfl := F7 (hall 7 (by decide))
    obtain rfl := F8 (hall 8 (by decide))
    obtain rfl := F9 (hall 9 (by decide))
    obtain rfl := F10 (hall 10 (by decide))
    obtain ⟨rfl, A11, u11, v11, O11⟩ := F11 (hall 11 (by decide))
    have P12 := (F12 (hall 12 (by decide))).2
    have HB := F13
    have B0 := F14
    have B1 := F15
    have B2 := F16
    clear hall F11 F12 F13 F14 F15 F16 F0 F1 F2 F3 F4 F5 F6 F7 F8 F9 F10
    try dsimp only

    clear O11 u11 v11
    have e0 : w0.heap.size + 1 + 1 < g7 := A11
    go_upto_region 5 with fail
    refine wp_region_inv (by kernel_rfl) (by kernel_rfl) (DbI w0 n k m l x p q r g7) ?_ ?_ ?_
    · exact ⟨_, _, _, _, _, _, _, _, _, _, 0, 0, rfl, fun h => absurd h l0, fun h => absurd h l0, fun h => absurd h l0, fun h => absurd h l0, fun h => absurd h l0, fun h => absurd h l0, fun h => absurd h l0, fun h => absurd h l0, fun h => absurd h l0, fun h => absurd h l0, fun h => absurd h l0, fun h => absurd h l0, fun h => absurd h l0, bdr HB, B0.drew, B1.drew, (let ⟨u, v, c⟩ := B2; ⟨u, v, c.drew⟩), P12.drew⟩
    · intro i o listed A w hi ho hd hn hI
      obtain ⟨s8, s9, s28, s29, s30, s31, s32, s33, s34, s35, g8, g9, rfl, F0, F1, F2, F3, F4, F5, F6, F7, F8, F9, F10, F11, F12, F13, F14, F15, F16, F17⟩ := hI
      have hi' : i < 12 := hi
      clear hi
      rcases (by omega : i = 0 ∨ i = 1 ∨ i = 2 ∨ i = 3 ∨ i = 4 ∨ i = 5 ∨ i = 6 ∨ i = 7 ∨ i = 8 ∨ i = 9 ∨ i = 10 ∨ i = 11) with rfl | rfl | rfl | rfl | rfl | rfl | rfl | rfl | rfl | rfl | rfl | rfl
      · simp only [List.getElem?_toArray, List.getElem?_cons_zero, Option.some.injEq] at ho
        subst ho
        have O'3 := F17; obtain ⟨_, _, _, _⟩ := O'3
        refine wpOp_step rfl (fun K hK => ?_)
        go_simp
        refine hK _ _ ?_
        exact ⟨_, _, _, _, _, _, _, _, _, _, g8, g9, rfl, fun _ => rfl, fun h => F1 (ls (by decide) h), fun h => F2 (ls (by decide) h), fun h => F3 (ls (by decide) h), fun h => F4 (ls (by decide) h), fun h => F5 (ls (by decide) h), fun h => F6 (ls (by decide) h), fun h => F7 (ls (by decide) h), fun h => F8 (ls (by decide) h), fun h => F9 (ls (by decide) h), fun h => let ⟨x, c⟩ := F10 (ls (by decide) h); ⟨la x, c⟩, fun h => let ⟨x, c⟩ := F11 (ls (by decide) h); ⟨la x, c⟩, fun h h' => F12 (ls (by decide) h) (ls (by decide) h'), F13, F14, F15, F16, F17⟩
      · simp only [List.getElem?_toArray, List.getElem?_cons_zero, List.getElem?_cons_succ, Option.some.injEq] at ho
        subst ho
        refine wpOp_step rfl (fun K hK => ?_)
        go_simp
        refine hK _ _ ?_
        exact ⟨_, _, _, _, _, _, _, _, _, _, g8, g9, rfl, fun h => F0 (ls (by decide) h), fun _ => rfl, fun h => F2 (ls (by decide) h), fun h => F3 (ls (by decide) h), fun h => F4 (ls (by decide) h), fun h => F5 (ls (by decide) h), fun h => F6 (ls (by decide) h), fun h => F7 (ls (by decide) h), fun h => F8 (ls (by decide) h), fun h => F9 (ls (by decide) h), fun h => let ⟨x, c⟩ := F10 (ls (by decide) h); ⟨la x, c⟩, fun h => let ⟨x, c⟩ := F11 (ls (by decide) h); ⟨la x, c⟩, fun h h' => F12 (ls (by decide) h) (ls (by decide) h'), F13, F14, F15, F16, F17⟩
      · simp only [List.getElem?_toArray, List.getElem?_cons_zero, List.getElem?_cons_succ, Option.some.injEq] at ho
        subst ho
        obtain rfl := F1 (hd ⟨1, .data⟩ (by simp) rfl)
        have O'1 := F15; obtain ⟨_, _, _, _⟩ := O'1
        refine wpOp_step rfl (fun K hK => ?_)
        go_simp
        refine hK _ _ ?_
        exact ⟨_, _, _, _, _, _, _, _, _, _, g8, g9, rfl, fun h => F0 (ls (by decide) h), fun h => F1 (ls (by decide) h), fun _ => rfl, fun h => F3 (ls (by decide) h), fun h => F4 (ls (by decide) h), fun h => F5 (ls (by decide) h), fun h => F6 (ls (by decide) h), fun h => F7 (ls (by decide) h), fun h => F8 (ls (by decide) h), fun h => F9 (ls (by decide) h), fun h => let ⟨x, c⟩ := F10 (ls (by decide) h); ⟨la x, c⟩, fun h => let ⟨x, c⟩ := F11 (ls (by decide) h); ⟨la x, c⟩, fun h h' => F12 (ls (by decide) h) (ls (by decide) h'), F13, F14, F15, F16, F17⟩
      · simp only [List.getElem?_toArray, List.getElem?_cons_zero, List.getElem?_cons_succ, Option.some.injEq] at ho
        subst ho
        obtain rfl := F2 (hd ⟨2, .data⟩ (by simp) rfl)
        refine wpOp_step rfl (fun K hK => ?_)
        go_simp
        go_at_call 33; refine (H4.out.call _).mono ?_; rintro e w' ⟨rfl, hb⟩
        refine hK _ _ ?_
        exact ⟨_, _, _, _, _, _, _, _, _, _, g8, g9, rfl, fun h => F0 (ls (by decide) h), fun h => F1 (ls (by decide) h), fun h => F2 (ls (by decide) h), fun _ => rfl, fun h => F4 (ls (by decide) h), fun h => F5 (ls (by decide) h), fun h => F6 (ls (by decide) h), fun h => F7 (ls (by decide) h), fun h => let ⟨a, b, u, v, c⟩ := F8 (ls (by decide) h); ⟨a, b, u, v, (c).call hb⟩, fun h => let ⟨a, b, u, v, c⟩ := F9 (ls (by decide) h); ⟨a, b, u, v, (c).call hb⟩, fun h => let ⟨x, c⟩ := F10 (ls (by decide) h); ⟨la x, (c).call hb⟩, fun h => let ⟨x, c⟩ := F11 (ls (by decide) h); ⟨la x, (c).call hb⟩, fun h h' => F12 (ls (by decide) h) (ls (by decide) h'), bt F13 hb, (F14).call hb, (F15).call hb, (let ⟨u, v, c⟩ := F16; ⟨u, v, (c).call hb⟩), (F17).call hb⟩
      · simp only [List.getElem?_toArray, List.getElem?_cons_zero, List.getElem?_cons_succ, Option.some.injEq] at ho
        subst ho
        obtain rfl := F0 (hd ⟨0, .data⟩ (by simp) rfl)
        obtain rfl := F3 (hd ⟨3, .data⟩ (by simp) rfl)
        refine wpOp_step rfl (fun K hK => ?_)
        go_simp
        go_at_call 49; refine (H5.out.call _).mono ?_; rintro e w' ⟨rfl, hb⟩
        refine hK _ _ ?_
        exact ⟨_, _, _, _, _, _, _, _, _, _, g8, g9, rfl, fun h => F0 (ls (by decide) h), fun h => F1 (ls (by decide) h), fun h => F2 (ls (by decide) h), fun h => F3 (ls (by decide) h), fun _ => rfl, fun h => F5 (ls (by decide) h), fun h => F6 (ls (by decide) h), fun h => F7 (ls (by decide) h), fun h => let ⟨a, b, u, v, c⟩ := F8 (ls (by decide) h); ⟨a, b, u, v, (c).call hb⟩, fun h => let ⟨a, b, u, v, c⟩ := F9 (ls (by decide) h); ⟨a, b, u, v, (c).call hb⟩, fun h => let ⟨x, c⟩ := F10 (ls (by decide) h); ⟨la x, (c).call hb⟩, fun h => let ⟨x, c⟩ := F11 (ls (by decide) h); ⟨la x, (c).call hb⟩, fun h h' => F12 (ls (by decide) h) (ls (by decide) h'), bt F13 hb, (F14).call hb, (F15).call hb, (let ⟨u, v, c⟩ := F16; ⟨u, v, (c).call hb⟩), (F17).call hb⟩
      · simp only [List.getElem?_toArray, List.getElem?_cons_zero, List.getElem?_cons_succ, Option.some.injEq] at ho
        subst ho
        obtain rfl := F4 (hd ⟨4, .data⟩ (by simp) rfl)
        refine wpOp_step rfl (fun K hK => ?_)
        go_simp
        refine hK _ _ ?_
        exact ⟨_, _, _, _, _, _, _, _, _, _, g8, g9, rfl, fun h => F0 (ls (by decide) h), fun h => F1 (ls (by decide) h), fun h => F2 (ls (by decide) h), fun h => F3 (ls (by decide) h), fun h => F4 (ls (by decide) h), fun _ => rfl, fun h => F6 (ls (by decide) h), fun h => F7 (ls (by decide) h), fun h => F8 (ls (by decide) h), fun h => F9 (ls (by decide) h), fun h => let ⟨x, c⟩ := F10 (ls (by decide) h); ⟨la x, c⟩, fun h => let ⟨x, c⟩ := F11 (ls (by decide) h); ⟨la x, c⟩, fun h h' => F12 (ls (by decide) h) (ls (by decide) h'), F13, F14, F15, F16, F17⟩
      · simp only [List.getElem?_toArray, List.getElem?_cons_zero, List.getElem?_cons_succ, Option.some.injEq] at ho
        subst ho
        obtain rfl := F5 (hd ⟨5, .data⟩ (by simp) rfl)
        refine wpOp_step rfl (fun K hK => ?_)
        go_simp
        refine hK _ _ ?_
        exact ⟨_, _, _, _, _, _, _, _, _, _, g8, g9, rfl, fun h => F0 (ls (by decide) h), fun h => F1 (ls (by decide) h), fun h => F2 (ls (by decide) h), fun h => F3 (ls (by decide) h), fun h => F4 (ls (by decide) h), fun h => F5 (ls (by decide) h), fun _ => rfl, fun h => F7 (ls (by decide) h), fun h => F8 (ls (by decide) h), fun h => F9 (ls (by decide) h), fun h => let ⟨x, c⟩ := F10 (ls (by decide) h); ⟨la x, c⟩, fun h => let ⟨x, c⟩ := F11 (ls (by decide) h); ⟨la x, c⟩, fun h h' => F12 (ls (by decide) h) (ls (by decide) h'), F13, F14, F15, F16, F17⟩
      · simp only [List.getElem?_toArray, List.getElem?_cons_zero, List.getElem?_cons_succ, Option.some.injEq] at ho
        subst ho
        obtain rfl := F5 (hd ⟨5, .data⟩ (by simp) rfl)
        refine wpOp_step rfl (fun K hK => ?_)
        go_simp
        refine hK _ _ ?_
        exact ⟨_, _, _, _, _, _, _, _, _, _, g8, g9, rfl, fun h => F0 (ls (by decide) h), fun h => F1 (ls (by decide) h), fun h => F2 (ls (by decide) h), fun h => F3 (ls (by decide) h), fun h => F4 (ls (by decide) h), fun h => F5 (ls (by decide) h), fun h => F6 (ls (by decide) h), fun _ => rfl, fun h => F8 (ls (by decide) h), fun h => F9 (ls (by decide) h), fun h => let ⟨x, c⟩ := F10 (ls (by decide) h); ⟨la x, c⟩, fun h => let ⟨x, c⟩ := F11 (ls (by decide) h); ⟨la x, c⟩, fun h h' => F12 (ls (by decide) h) (ls (by decide) h'), F13, F14, F15, F16, F17⟩
      · simp only [List.getElem?_toArray, List.getElem?_cons_zero, List.getElem?_cons_succ, Option.some.injEq] at ho
        subst ho
        refine wpOp_step rfl (fun K hK => ?_)
        go_simp
        refine hK _ _ ?_
        exact ⟨_, _, _, _, _, _, _, _, _, _, w.heap.size, g9, rfl, fun h => F0 (ls (by decide) h), fun h => F1 (ls (by decide) h), fun h => F2 (ls (by decide) h), fun h => F3 (ls (by decide) h), fun h => F4 (ls (by decide) h), fun h => F5 (ls (by decide) h), fun h => F6 (ls (by decide) h), fun h => F7 (ls (by decide) h), fun _ => ⟨rfl, (F17).lt, _, _, Own.new _ _ _ _⟩, fun h => let ⟨a, b, u, v, c⟩ := F9 (ls (by decide) h); ⟨a, b, u, v, (c).alloc _⟩, fun h => lc hn (F10 (ls (by decide) h)).1, fun h => let ⟨x, c⟩ := F11 (ls (by decide) h); ⟨la x, (c).alloc _⟩, fun _ h => let ⟨_, _, _, _, c⟩ := F9 (ls (by decide) h); Ne.symm (Nat.ne_of_lt c.lt), ba F13, (F14).alloc _, (F15).alloc _, (let ⟨u, v, c⟩ := F16; ⟨u, v, (c).alloc _⟩), (F17).alloc _⟩
      · simp only [List.getElem?_toArray, List.getElem?_cons_zero, List.getElem?_cons_succ, Option.some.injEq] at ho
        subst ho
        refine wpOp_step rfl (fun K hK => ?_)
        go_simp
        refine hK _ _ ?_
        exact ⟨_, _, _, _, _, _, _, _, _, _, g8, w.heap.size, rfl, fun h => F0 (ls (by decide) h), fun h => F1 (ls (by decide) h), fun h => F2 (ls (by decide) h), fun h => F3 (ls (by decide) h), fun h => F4 (ls (by decide) h), fun h => F5 (ls (by decide) h), fun h => F6 (ls (by decide) h), fun h => F7 (ls (by decide) h), fun h => let ⟨a, b, u, v, c⟩ := F8 (ls (by decide) h); ⟨a, b, u, v, (c).alloc _⟩, fun _ => ⟨rfl, (F17).lt, _, _, Own.new _ _ _ _⟩, fun h => let ⟨x, c⟩ := F10 (ls (by decide) h); ⟨la x, (c).alloc _⟩, fun h => lc hn (F11 (ls (by decide) h)).1, fun h _ => let ⟨_, _, _, _, c⟩ := F8 (ls (by decide) h); Nat.ne_of_lt c.lt, ba F13, (F14).alloc _, (F15).alloc _, (let ⟨u, v, c⟩ := F16; ⟨u, v, (c).alloc _⟩), (F17).alloc _⟩
      · simp only [List.getElem?_toArray, List.getElem?_cons_zero, List.getElem?_cons_succ, Option.some.injEq] at ho
        subst ho
        obtain ⟨rfl, A8, u8, v8, O8⟩ := F8 (hd ⟨8, .data⟩ (by simp) rfl)
        have O8' := O8; obtain ⟨_, _, _, _⟩ := O8'
        obtain rfl := F6 (hd ⟨6, .data⟩ (by simp) rfl)
        refine wpOp_step rfl (fun K hK => ?_)
        go_simp
        refine hK _ _ ?_
        exact ⟨_, _, _, _, _, _, _, _, _, _, g8, g9, rfl, fun h => F0 (ls (by decide) h), fun h => F1 (ls (by decide) h), fun h => F2 (ls (by decide) h), fun h => F3 (ls (by decide) h), fun h => F4 (ls (by decide) h), fun h => F5 (ls (by decide) h), fun h => F6 (ls (by decide) h), fun h => F7 (ls (by decide) h), fun _ => ⟨rfl, A8, _, _, O8.store _ _⟩, fun h => let ⟨a, b, u, v, c⟩ := F9 (ls (by decide) h); ⟨a, b, u, v, (c.set_ (F12 (hd ⟨8, .data⟩ (by simp) rfl) (hd ⟨9, .phase⟩ (by simp) rfl))).set_ (F12 (hd ⟨8, .data⟩ (by simp) rfl) (hd ⟨9, .phase⟩ (by simp) rfl))⟩, fun _ => ⟨la (hd ⟨8, .data⟩ (by simp) rfl), O8.store _ _⟩, fun h => let ⟨x, c⟩ := F11 (ls (by decide) h); ⟨la x, (c.set_ (F12 (hd ⟨8, .data⟩ (by simp) rfl) (hd ⟨9, .phase⟩ (by simp) rfl))).set_ (F12 (hd ⟨8, .data⟩ (by simp) rfl) (hd ⟨9, .phase⟩ (by simp) rfl))⟩, fun h h' => F12 (ls (by decide) h) (ls (by decide) h'), bs (bs F13 (by first | (simp; done) | (simp; omega))) (by first | (simp; done) | (simp; omega)), ((F14).set_ (by first | (simp; done) | (simp; omega))).set_ (by first | (simp; done) | (simp; omega)), ((F15).set_ (by first | (simp; done) | (simp; omega))).set_ (by first | (simp; done) | (simp; omega)), (let ⟨u, v, c⟩ := F16; ⟨u, v, (c.set_ (by first | (simp; done) | (simp; omega))).set_ (by first | (simp; done) | (simp; omega))⟩), ((F17).set_ (by first | (simp; done) | (simp; omega))).set_ (by first | (simp; done) | (simp; omega))⟩
      · simp only [List.getElem?_toArray, List.getElem?_cons_zero, List.getElem?_cons_succ, Option.some.injEq] at ho
        subst ho
        obtain ⟨rfl, A9, u9, v9, O9⟩ := F9 (hd ⟨9, .data⟩ (by simp) rfl)
        have O9' := O9; obtain ⟨_, _, _, _⟩ := O9'
        obtain rfl := F7 (hd ⟨7, .data⟩ (by simp) rfl)
        refine wpOp_step rfl (fun K hK => ?_)
        go_simp
        refine hK _ _ ?_
        exact ⟨_, _, _, _, _, _, _, _, _, _, g8, g9, rfl, fun h => F0 (ls (by decide) h), fun h => F1 (ls (by decide) h), fun h => F2 (ls (by decide) h), fun h => F3 (ls (by decide) h), fun h => F4 (ls (by decide) h), fun h => F5 (ls (by decide) h), fun h => F6 (ls (by decide) h), fun h => F7 (ls (by decide) h), fun h => let ⟨a, b, u, v, c⟩ := F8 (ls (by decide) h); ⟨a, b, u, v, (c.set_ (Ne.symm (F12 (hd ⟨8, .phase⟩ (by simp) rfl) (hd ⟨9, .data⟩ (by simp) rfl)))).set_ (Ne.symm (F12 (hd ⟨8, .phase⟩ (by simp) rfl) (hd ⟨9, .data⟩ (by simp) rfl)))⟩, fun _ => ⟨rfl, A9, _, _, O9.store _ _⟩, fun h => let ⟨x, c⟩ := F10 (ls (by decide) h); ⟨la x, (c.set_ (Ne.symm (F12 (hd ⟨8, .phase⟩ (by simp) rfl) (hd ⟨9, .data⟩ (by simp) rfl)))).set_ (Ne.symm (F12 (hd ⟨8, .phase⟩ (by simp) rfl) (hd ⟨9, .data⟩ (by simp) rfl)))⟩, fun _ => ⟨la (hd ⟨9, .data⟩ (by simp) rfl), O9.store _ _⟩, fun h h' => F12 (ls (by decide) h) (ls (by decide) h'), bs (bs F13 (by first | (simp; done) | (simp; omega))) (by first | (simp; done) | (simp; omega)), ((F14).set_ (by first | (simp; done) | (simp; omega))).set_ (by first | (simp; done) | (simp; omega)), ((F15).set_ (by first | (simp; done) | (simp; omega))).set_ (by first | (simp; done) | (simp; omega)), (let ⟨u, v, c⟩ := F16; ⟨u, v, (c.set_ (by first | (simp; done) | (simp; omega))).set_ (by first | (simp; done) | (simp; omega))⟩), ((F17).set_ (by first | (simp; done) | (simp; omega))).set_ (by first | (simp; done) | (simp; omega))⟩
    · intro listed A w hall hI
      obtain ⟨s8, s9, s28, s29, s30, s31, s32, s33, s34, s35, g8, g9, rfl, F0, F1, F2, F3, F4, F5, F6, F7, F8, F9, F10, F11, F12, F13, F14, F15, F16, F17⟩ := hI
      obtain rfl := F0 (hall 0 (by decide))
      obtain rfl := F1 (hall 1 (by decide))
      obtain rfl := F2 (hall 2 (by decide))
      obtain rfl := F3 (hall 3 (by decide))
      obtain rfl := F4 (hall 4 (by decide))
      obtain rfl := F5 (hall 5 (by decide))
      obtain rfl := F6 (hall 6 (by decide))
      obtain rfl := F7 (hall 7 (by decide))
      obtain ⟨rfl, A8, u8, v8, O8⟩ := F8 (hall 8 (by decide))
      obtain ⟨rfl, A9, u9, v9, O9⟩ := F9 (hall 9 (by decide))
      have P10 := (F10 (hall 10 (by decide))).2
      have P11 := (F11 (hall 11 (by decide))).2
      have N12 := F12 (hall _ (by decide)) (hall _ (by decide))
      have HB := F13
      have B0 := F14
      have B1 := F15
      have B2 := F16
      have B3 := F17
      clear hall F8 F9 F10 F11 F12 F13 F14 F15 F16 F17 F0 F1 F2 F3 F4 F5 F6 F7
      try dsimp only

      obtain ⟨_, _, _, _⟩ := P10
      obtain ⟨x2, y2, B2'⟩ := B2
      have B2'' := B2'
      obtain ⟨_, _, _, _⟩ := B2''
      go_wp2_with (go_at_call 32; refine (H6.out.call _).mono ?_; rintro e w4 ⟨rfl, hb4⟩; obtain ⟨_, _, _, _⟩ := B2'.call hb4)
      exact bodyPost_ret (v := .tuple #[.agg #[.int .i64 a, .int .i64 b], .int .i64 c]) (by simp [results, Tryd.results21, go_sem, *]) rfl ⟨rfl, by repeat (first | exact Below.refl _ _ | apply ba | (refine bs ?_ (by first | (simp; done) | (simp; omega))) | (refine bt ?_ (by assumption)))⟩
theorem div_any (n m : Int) (k l : Nat) (h : RightZ n k) (h' : RightZ m l) (hm : m ≠ 0) (w0 : World) :
    Calls Tryd.prog 21 #[nv n k, nv m l] w0 fun e w' => e = .returned (outV (divZ n k m l)) ∧ Below w0.heap.size w0 w' := by
  obtain ⟨i1, i2⟩ := rz_inI h
  obtain ⟨i3, i4⟩ := rz_inI h'
  have hk := h.2.2.1
  have hl := h'.2.2.1
  have b := mul_bd n (10 ^ (9 + l - k)) 999999999999999999 1000000000000000000 ⟨h.1, h.2.1⟩ ⟨Int.le_of_lt (ten_pos _), by
    have a : (10 : Nat) ^ (9 + l - k) ≤ 10 ^ 18 := Nat.pow_le_pow_right (by decide) (by omega)
    have e : (((10 : Nat) ^ (9 + l - k) : Nat) : Int) = 10 ^ (9 + l - k) := by simp
    rw [← e]; exact Int.ofNat_le.2 a⟩
  have e1 : 9 + (l : Int) - (k : Int) = ((9 + l - k : Nat) : Int) := by omega
  have hm1 := h'.1
  have hm2 := h'.2.1
  have hq : -170141183460469231731687303715884105728 < (n * 10 ^ (9 + l - k)).tdiv m ∧ (n * 10 ^ (9 + l - k)).tdiv m < 170141183460469231731687303715884105728 := by
    by_cases hn : m < 0
    · have := tdiv_bd (n * 10 ^ (9 + l - k)) (-m) (by omega) (by omega) (by omega)
      rw [Int.tdiv_neg] at this; omega
    · exact tdiv_bd (n * 10 ^ (9 + l - k)) m (by omega) (by omega) (by omega)
  refine div_core n k m l (n * 10 ^ (9 + l - k)) (10 ^ (9 + l - k)) ((n * 10 ^ (9 + l - k)).tdiv m) ((n * 10 ^ (9 + l - k)).tmod m) _ _ _ w0 (by omega) (by omega)
    (gives_unfold fun w => divisor_ok n m k l h h' hm w) (gives_unfold fun w => wideOf_any n i1.1 i1.2 w) (gives_unfold fun w => by rw [e1]; exact power_any _ (by omega) w) (gives_unfold fun w => times_any n _ w)
    (gives_unfold fun w => wideOf_any m i3.1 i3.2 w) (gives_unfold fun w => divided_any _ m (by omega) (by omega) (by omega) (by omega) hm (.inl (by have := h'.1; have := h'.2.1; omega)) w)
    (gives_unfold fun w => fit_any _ 9 hq.1 hq.2 (by decide) w)
end Go.Proofs
