/- Package dec brings two numbers to one scale. No condition beyond what the theorems state. -/
import Derived.Test.YtmggffhecopgiaaDoorRight
namespace Go.Proofs
open Go.Shelf Go.RowKit Go.Proofs.Wide
def LvI (w0 : World) (n k m l s x y p q : Int) (listed : Array Bool) (A : Act) (w : World) : Prop := ∃ (s6 s13 s14 s15 s16 s17 s18 s19 s20 s21 s22 s23 s24 s25 s26 s27 s28 s29 s30 s31 : Value), A = { tmps := #[.agg #[.int .i64 (n), .int .i64 (k)], .agg #[.int .i64 (m), .int .i64 (l)], .pointer (some ⟨w0.heap.size, 0, none⟩), .pointer (some ⟨w0.heap.size + 1, 0, none⟩), .pointer (some ⟨w0.heap.size + 1 + 1, 0, none⟩), .pointer (some ⟨w0.heap.size + 1 + 1 + 1, 0, none⟩), s6, .int .i64 (s), .pointer (some ⟨w0.heap.size, 1, none⟩), .int .i64 (k), .pointer (some ⟨w0.heap.size + 1, 1, none⟩), .int .i64 (l), .int .i64 (s), s13, s14, s15, s16, s17, s18, s19, s20, s21, s22, s23, s24, s25, s26, s27, s28, s29, s30, s31], defers := [] } ∧
  (listed.getD 0 false = true → s13 = .pointer (some ⟨w0.heap.size, 0, none⟩)) ∧
  (listed.getD 1 false = true → s14 = .int .i64 (n)) ∧
  (listed.getD 2 false = true → s15 = .agg #[.int .u64 (hi n), .int .u64 (lo n)]) ∧
  (listed.getD 3 false = true → s16 = .int .i64 (s)) ∧
  (listed.getD 4 false = true → s17 = .pointer (some ⟨w0.heap.size, 1, none⟩)) ∧
  (listed.getD 5 false = true → s18 = .int .i64 (k)) ∧
  (listed.getD 6 false = true → s19 = .int .i64 (s - k)) ∧
  (listed.getD 7 false = true → s20 = .agg #[.int .u64 (hi p), .int .u64 (lo p)]) ∧
  (listed.getD 8 false = true → s21 = .agg #[.int .u64 (hi x), .int .u64 (lo x)]) ∧
  (listed.getD 9 false = true → s22 = .pointer (some ⟨w0.heap.size + 1, 0, none⟩)) ∧
  (listed.getD 10 false = true → s23 = .int .i64 (m)) ∧
  (listed.getD 11 false = true → s24 = .agg #[.int .u64 (hi m), .int .u64 (lo m)]) ∧
  (listed.getD 12 false = true → s25 = .int .i64 (s)) ∧
  (listed.getD 13 false = true → s26 = .pointer (some ⟨w0.heap.size + 1, 1, none⟩)) ∧
  (listed.getD 14 false = true → s27 = .int .i64 (l)) ∧
  (listed.getD 15 false = true → s28 = .int .i64 (s - l)) ∧
  (listed.getD 16 false = true → s29 = .agg #[.int .u64 (hi q), .int .u64 (lo q)]) ∧
  (listed.getD 17 false = true → s30 = .agg #[.int .u64 (hi y), .int .u64 (lo y)]) ∧
  (listed.getD 18 false = true → s31 = .int .i64 (s)) ∧
  (listed.getD 19 false = true → Own w (w0.heap.size + 1 + 1) (.int .u64 (hi x)) (.int .u64 (lo x))) ∧
  (listed.getD 20 false = true → Own w (w0.heap.size + 1 + 1 + 1) (.int .u64 (hi y)) (.int .u64 (lo y))) ∧
  (listed.getD 21 false = true → s6 = .int .i64 (s)) ∧
  Below w0.heap.size w0 w ∧
  Own w (w0.heap.size) (.int .i64 n) (.int .i64 k) ∧
  Own w (w0.heap.size + 1) (.int .i64 m) (.int .i64 l) ∧
  (∃ u v, Own w (w0.heap.size + 1 + 1) u v) ∧
  (∃ u v, Own w (w0.heap.size + 1 + 1 + 1) u v)

set_option maxHeartbeats 4000000 in
theorem level_core (n k m l s x y p q : Int) (w0 : World) (hs : max k l = s) (hk : 0 ≤ s - k ∧ s - k ≤ 100) (hl : 0 ≤ s - l ∧ s - l ≤ 100)
    (H1 : Hid (Gives 33 #[.int .i64 n] (.agg #[.int .u64 (hi n), .int .u64 (lo n)])))
    (H2 : Hid (Gives 48 #[.int .i64 (s - k)] (.agg #[.int .u64 (hi p), .int .u64 (lo p)])))
    (H3 : Hid (Gives 46 #[.agg #[.int .u64 (hi n), .int .u64 (lo n)], .agg #[.int .u64 (hi p), .int .u64 (lo p)]] (.agg #[.int .u64 (hi x), .int .u64 (lo x)])))
    (H4 : Hid (Gives 33 #[.int .i64 m] (.agg #[.int .u64 (hi m), .int .u64 (lo m)])))
    (H5 : Hid (Gives 48 #[.int .i64 (s - l)] (.agg #[.int .u64 (hi q), .int .u64 (lo q)])))
    (H6 : Hid (Gives 46 #[.agg #[.int .u64 (hi m), .int .u64 (lo m)], .agg #[.int .u64 (hi q), .int .u64 (lo q)]] (.agg #[.int .u64 (hi y), .int .u64 (lo y)]))) :
    Calls Tryd.prog 43 #[nv n k, nv m l] w0 fun e w' => e = .returned (.tuple #[wv x, wv y, .int .i64 s]) ∧ Below w0.heap.size w0 w' := by
  unfold nv wv
  obtain ⟨k1, k2⟩ := hk
  obtain ⟨l1, l2⟩ := hl
  have w1 : IntKind.i64.wrap (s - k) = s - k := by rw [IntKind.wrap_i64]; omega
  have w2 : IntKind.i64.wrap (s - l) = s - l := by rw [IntKind.wrap_i64]; omega
  go_enter Tryd.func43, Tryd.ntmps43
  go_upto_region 2 with fail
  refine wp_region_inv (by kernel_rfl) (by kernel_rfl) (LvI w0 n k m l s x y p q) ?_ ?_ ?_
  · exact ⟨_, _, _, _, _, _, _, _, _, _, _, _, _, _, _, _, _, _, _, _, rfl, fun h => absurd h l0, fun h => absurd h l0, fun h => absurd h l0, fun h => absurd h l0, fun h => absurd h l0, fun h => absurd h l0, fun h => absurd h l0, fun h => absurd h l0, fun h => absurd h l0, fun h => absurd h l0, fun h => absurd h l0, fun h => absurd h l0, fun h => absurd h l0, fun h => absurd h l0, fun h => absurd h l0, fun h => absurd h l0, fun h => absurd h l0, fun h => absurd h l0, fun h => absurd h l0, fun h => absurd h l0, fun h => absurd h l0, fun h => absurd h l0, bdr (ba (ba (ba (ba (Below.refl _ _))))), (((Own.new_at (by simp)).alloc _).alloc _).alloc _, ((Own.new_at (by simp)).alloc _).alloc _, ⟨_, _, (Own.new_at (by simp)).alloc _⟩, ⟨_, _, Own.new_at (by simp)⟩⟩
  · intro i o listed A w hi ho hd hn hI
    obtain ⟨s6, s13, s14, s15, s16, s17, s18, s19, s20, s21, s22, s23, s24, s25, s26, s27, s28, s29, s30, s31, rfl, F0, F1, F2, F3, F4, F5, F6, F7, F8, F9, F10, F11, F12, F13, F14, F15, F16, F17, F18, F19, F20, F21, F22, F23, F24, F25, F26⟩ := hI
    have hi' : i < 22 := hi
    clear hi
    rcases (by omega : i = 0 ∨ i = 1 ∨ i = 2 ∨ i = 3 ∨ i = 4 ∨ i = 5 ∨ i = 6 ∨ i = 7 ∨ i = 8 ∨ i = 9 ∨ i = 10 ∨ i = 11 ∨ i = 12 ∨ i = 13 ∨ i = 14 ∨ i = 15 ∨ i = 16 ∨ i = 17 ∨ i = 18 ∨ i = 19 ∨ i = 20 ∨ i = 21) with rfl | rfl | rfl | rfl | rfl | rfl | rfl | rfl | rfl | rfl | rfl | rfl | rfl | rfl | rfl | rfl | rfl | rfl | rfl | rfl | rfl | rfl
    · simp only [List.getElem?_toArray, List.getElem?_cons_zero, Option.some.injEq] at ho
      subst ho
      refine wpOp_step rfl (fun K hK => ?_)
      go_simp
      refine hK _ _ ?_
      exact ⟨_, _, _, _, _, _, _, _, _, _, _, _, _, _, _, _, _, _, _, _, rfl, fun _ => rfl, fun h => F1 (ls (by decide) h), fun h => F2 (ls (by decide) h), fun h => F3 (ls (by decide) h), fun h => F4 (ls (by decide) h), fun h => F5 (ls (by decide) h), fun h => F6 (ls (by decide) h), fun h => F7 (ls (by decide) h), fun h => F8 (ls (by decide) h), fun h => F9 (ls (by decide) h), fun h => F10 (ls (by decide) h), fun h => F11 (ls (by decide) h), fun h => F12 (ls (by decide) h), fun h => F13 (ls (by decide) h), fun h => F14 (ls (by decide) h), fun h => F15 (ls (by decide) h), fun h => F16 (ls (by decide) h), fun h => F17 (ls (by decide) h), fun h => F18 (ls (by decide) h), fun h => F19 (ls (by decide) h), fun h => F20 (ls (by decide) h), fun h => F21 (ls (by decide) h), F22, F23, F24, F25, F26⟩
    · simp only [List.getElem?_toArray, List.getElem?_cons_zero, List.getElem?_cons_succ, Option.some.injEq] at ho
      subst ho
      obtain rfl := F0 (hd ⟨0, .data⟩ (by simp) rfl)
      have O'0 := F23; obtain ⟨_, _, _, _⟩ := O'0
      refine wpOp_step rfl (fun K hK => ?_)
      go_simp
      refine hK _ _ ?_
      exact ⟨_, _, _, _, _, _, _, _, _, _, _, _, _, _, _, _, _, _, _, _, rfl, fun h => F0 (ls (by decide) h), fun _ => rfl, fun h => F2 (ls (by decide) h), fun h => F3 (ls (by decide) h), fun h => F4 (ls (by decide) h), fun h => F5 (ls (by decide) h), fun h => F6 (ls (by decide) h), fun h => F7 (ls (by decide) h), fun h => F8 (ls (by decide) h), fun h => F9 (ls (by decide) h), fun h => F10 (ls (by decide) h), fun h => F11 (ls (by decide) h), fun h => F12 (ls (by decide) h), fun h => F13 (ls (by decide) h), fun h => F14 (ls (by decide) h), fun h => F15 (ls (by decide) h), fun h => F16 (ls (by decide) h), fun h => F17 (ls (by decide) h), fun h => F18 (ls (by decide) h), fun h => F19 (ls (by decide) h), fun h => F20 (ls (by decide) h), fun h => F21 (ls (by decide) h), F22, F23, F24, F25, F26⟩
    · simp only [List.getElem?_toArray, List.getElem?_cons_zero, List.getElem?_cons_succ, Option.some.injEq] at ho
      subst ho
      obtain rfl := F1 (hd ⟨1, .data⟩ (by simp) rfl)
      refine wpOp_step rfl (fun K hK => ?_)
      go_simp
      go_at_call 33; refine (H1.out.call _).mono ?_; rintro e w' ⟨rfl, hb⟩
      refine hK _ _ ?_
      exact ⟨_, _, _, _, _, _, _, _, _, _, _, _, _, _, _, _, _, _, _, _, rfl, fun h => F0 (ls (by decide) h), fun h => F1 (ls (by decide) h), fun _ => rfl, fun h => F3 (ls (by decide) h), fun h => F4 (ls (by decide) h), fun h => F5 (ls (by decide) h), fun h => F6 (ls (by decide) h), fun h => F7 (ls (by decide) h), fun h => F8 (ls (by decide) h), fun h => F9 (ls (by decide) h), fun h => F10 (ls (by decide) h), fun h => F11 (ls (by decide) h), fun h => F12 (ls (by decide) h), fun h => F13 (ls (by decide) h), fun h => F14 (ls (by decide) h), fun h => F15 (ls (by decide) h), fun h => F16 (ls (by decide) h), fun h => F17 (ls (by decide) h), fun h => F18 (ls (by decide) h), fun h => ((F19 (ls (by decide) h))).call hb, fun h => ((F20 (ls (by decide) h))).call hb, fun h => F21 (ls (by decide) h), bt F22 hb, (F23).call hb, (F24).call hb, (let ⟨u, v, c⟩ := F25; ⟨u, v, (c).call hb⟩), (let ⟨u, v, c⟩ := F26; ⟨u, v, (c).call hb⟩)⟩
    · simp only [List.getElem?_toArray, List.getElem?_cons_zero, List.getElem?_cons_succ, Option.some.injEq] at ho
      subst ho
      refine wpOp_step rfl (fun K hK => ?_)
      go_simp
      refine hK _ _ ?_
      exact ⟨_, _, _, _, _, _, _, _, _, _, _, _, _, _, _, _, _, _, _, _, rfl, fun h => F0 (ls (by decide) h), fun h => F1 (ls (by decide) h), fun h => F2 (ls (by decide) h), fun _ => rfl, fun h => F4 (ls (by decide) h), fun h => F5 (ls (by decide) h), fun h => F6 (ls (by decide) h), fun h => F7 (ls (by decide) h), fun h => F8 (ls (by decide) h), fun h => F9 (ls (by decide) h), fun h => F10 (ls (by decide) h), fun h => F11 (ls (by decide) h), fun h => F12 (ls (by decide) h), fun h => F13 (ls (by decide) h), fun h => F14 (ls (by decide) h), fun h => F15 (ls (by decide) h), fun h => F16 (ls (by decide) h), fun h => F17 (ls (by decide) h), fun h => F18 (ls (by decide) h), fun h => F19 (ls (by decide) h), fun h => F20 (ls (by decide) h), fun h => F21 (ls (by decide) h), F22, F23, F24, F25, F26⟩
    · simp only [List.getElem?_toArray, List.getElem?_cons_zero, List.getElem?_cons_succ, Option.some.injEq] at ho
      subst ho
      refine wpOp_step rfl (fun K hK => ?_)
      go_simp
      refine hK _ _ ?_
      exact ⟨_, _, _, _, _, _, _, _, _, _, _, _, _, _, _, _, _, _, _, _, rfl, fun h => F0 (ls (by decide) h), fun h => F1 (ls (by decide) h), fun h => F2 (ls (by decide) h), fun h => F3 (ls (by decide) h), fun _ => rfl, fun h => F5 (ls (by decide) h), fun h => F6 (ls (by decide) h), fun h => F7 (ls (by decide) h), fun h => F8 (ls (by decide) h), fun h => F9 (ls (by decide) h), fun h => F10 (ls (by decide) h), fun h => F11 (ls (by decide) h), fun h => F12 (ls (by decide) h), fun h => F13 (ls (by decide) h), fun h => F14 (ls (by decide) h), fun h => F15 (ls (by decide) h), fun h => F16 (ls (by decide) h), fun h => F17 (ls (by decide) h), fun h => F18 (ls (by decide) h), fun h => F19 (ls (by decide) h), fun h => F20 (ls (by decide) h), fun h => F21 (ls (by decide) h), F22, F23, F24, F25, F26⟩
    · simp only [List.getElem?_toArray, List.getElem?_cons_zero, List.getElem?_cons_succ, Option.some.injEq] at ho
      subst ho
      obtain rfl := F4 (hd ⟨4, .data⟩ (by simp) rfl)
      have O'0 := F23; obtain ⟨_, _, _, _⟩ := O'0
      refine wpOp_step rfl (fun K hK => ?_)
      go_simp
      refine hK _ _ ?_
      exact ⟨_, _, _, _, _, _, _, _, _, _, _, _, _, _, _, _, _, _, _, _, rfl, fun h => F0 (ls (by decide) h), fun h => F1 (ls (by decide) h), fun h => F2 (ls (by decide) h), fun h => F3 (ls (by decide) h), fun h => F4 (ls (by decide) h), fun _ => rfl, fun h => F6 (ls (by decide) h), fun h => F7 (ls (by decide) h), fun h => F8 (ls (by decide) h), fun h => F9 (ls (by decide) h), fun h => F10 (ls (by decide) h), fun h => F11 (ls (by decide) h), fun h => F12 (ls (by decide) h), fun h => F13 (ls (by decide) h), fun h => F14 (ls (by decide) h), fun h => F15 (ls (by decide) h), fun h => F16 (ls (by decide) h), fun h => F17 (ls (by decide) h), fun h => F18 (ls (by decide) h), fun h => F19 (ls (by decide) h), fun h => F20 (ls (by decide) h), fun h => F21 (ls (by decide) h), F22, F23, F24, F25, F26⟩
    · simp only [List.getElem?_toArray, List.getElem?_cons_zero, List.getElem?_cons_succ, Option.some.injEq] at ho
      subst ho
      obtain rfl := F3 (hd ⟨3, .data⟩ (by simp) rfl)
      obtain rfl := F5 (hd ⟨5, .data⟩ (by simp) rfl)
      refine wpOp_step rfl (fun K hK => ?_)
      go_simp
      refine hK _ _ ?_
      exact ⟨_, _, _, _, _, _, _, _, _, _, _, _, _, _, _, _, _, _, _, _, rfl, fun h => F0 (ls (by decide) h), fun h => F1 (ls (by decide) h), fun h => F2 (ls (by decide) h), fun h => F3 (ls (by decide) h), fun h => F4 (ls (by decide) h), fun h => F5 (ls (by decide) h), fun _ => rfl, fun h => F7 (ls (by decide) h), fun h => F8 (ls (by decide) h), fun h => F9 (ls (by decide) h), fun h => F10 (ls (by decide) h), fun h => F11 (ls (by decide) h), fun h => F12 (ls (by decide) h), fun h => F13 (ls (by decide) h), fun h => F14 (ls (by decide) h), fun h => F15 (ls (by decide) h), fun h => F16 (ls (by decide) h), fun h => F17 (ls (by decide) h), fun h => F18 (ls (by decide) h), fun h => F19 (ls (by decide) h), fun h => F20 (ls (by decide) h), fun h => F21 (ls (by decide) h), F22, F23, F24, F25, F26⟩
    · simp only [List.getElem?_toArray, List.getElem?_cons_zero, List.getElem?_cons_succ, Option.some.injEq] at ho
      subst ho
      obtain rfl := F6 (hd ⟨6, .data⟩ (by simp) rfl)
      refine wpOp_step rfl (fun K hK => ?_)
      go_simp
      go_at_call 48; refine (H2.out.call _).mono ?_; rintro e w' ⟨rfl, hb⟩
      refine hK _ _ ?_
      exact ⟨_, _, _, _, _, _, _, _, _, _, _, _, _, _, _, _, _, _, _, _, rfl, fun h => F0 (ls (by decide) h), fun h => F1 (ls (by decide) h), fun h => F2 (ls (by decide) h), fun h => F3 (ls (by decide) h), fun h => F4 (ls (by decide) h), fun h => F5 (ls (by decide) h), fun h => F6 (ls (by decide) h), fun _ => rfl, fun h => F8 (ls (by decide) h), fun h => F9 (ls (by decide) h), fun h => F10 (ls (by decide) h), fun h => F11 (ls (by decide) h), fun h => F12 (ls (by decide) h), fun h => F13 (ls (by decide) h), fun h => F14 (ls (by decide) h), fun h => F15 (ls (by decide) h), fun h => F16 (ls (by decide) h), fun h => F17 (ls (by decide) h), fun h => F18 (ls (by decide) h), fun h => ((F19 (ls (by decide) h))).call hb, fun h => ((F20 (ls (by decide) h))).call hb, fun h => F21 (ls (by decide) h), bt F22 hb, (F23).call hb, (F24).call hb, (let ⟨u, v, c⟩ := F25; ⟨u, v, (c).call hb⟩), (let ⟨u, v, c⟩ := F26; ⟨u, v, (c).call hb⟩)⟩
    · simp only [List.getElem?_toArray, List.getElem?_cons_zero, List.getElem?_cons_succ, Option.some.injEq] at ho
      subst ho
      obtain rfl := F2 (hd ⟨2, .data⟩ (by simp) rfl)
      obtain rfl := F7 (hd ⟨7, .data⟩ (by simp) rfl)
      refine wpOp_step rfl (fun K hK => ?_)
      go_simp
      go_at_call 46; refine (H3.out.call _).mono ?_; rintro e w' ⟨rfl, hb⟩
      refine hK _ _ ?_
      exact ⟨_, _, _, _, _, _, _, _, _, _, _, _, _, _, _, _, _, _, _, _, rfl, fun h => F0 (ls (by decide) h), fun h => F1 (ls (by decide) h), fun h => F2 (ls (by decide) h), fun h => F3 (ls (by decide) h), fun h => F4 (ls (by decide) h), fun h => F5 (ls (by decide) h), fun h => F6 (ls (by decide) h), fun h => F7 (ls (by decide) h), fun _ => rfl, fun h => F9 (ls (by decide) h), fun h => F10 (ls (by decide) h), fun h => F11 (ls (by decide) h), fun h => F12 (ls (by decide) h), fun h => F13 (ls (by decide) h), fun h => F14 (ls (by decide) h), fun h => F15 (ls (by decide) h), fun h => F16 (ls (by decide) h), fun h => F17 (ls (by decide) h), fun h => F18 (ls (by decide) h), fun h => ((F19 (ls (by decide) h))).call hb, fun h => ((F20 (ls (by decide) h))).call hb, fun h => F21 (ls (by decide) h), bt F22 hb, (F23).call hb, (F24).call hb, (let ⟨u, v, c⟩ := F25; ⟨u, v, (c).call hb⟩), (let ⟨u, v, c⟩ := F26; ⟨u, v, (c).call hb⟩)⟩
    · simp only [List.getElem?_toArray, List.getElem?_cons_zero, List.getElem?_cons_succ, Option.some.injEq] at ho
      subst ho
      refine wpOp_step rfl (fun K hK => ?_)
      go_simp
      refine hK _ _ ?_
      exact ⟨_, _, _, _, _, _, _, _, _, _, _, _, _, _, _, _, _, _, _, _, rfl, fun h => F0 (ls (by decide) h), fun h => F1 (ls (by decide) h), fun h => F2 (ls (by decide) h), fun h => F3 (ls (by decide) h), fun h => F4 (ls (by decide) h), fun h => F5 (ls (by decide) h), fun h => F6 (ls (by decide) h), fun h => F7 (ls (by decide) h), fun h => F8 (ls (by decide) h), fun _ => rfl, fun h => F10 (ls (by decide) h), fun h => F11 (ls (by decide) h), fun h => F12 (ls (by decide) h), fun h => F13 (ls (by decide) h), fun h => F14 (ls (by decide) h), fun h => F15 (ls (by decide) h), fun h => F16 (ls (by decide) h), fun h => F17 (ls (by decide) h), fun h => F18 (ls (by decide) h), fun h => F19 (ls (by decide) h), fun h => F20 (ls (by decide) h), fun h => F21 (ls (by decide) h), F22, F23, F24, F25, F26⟩
    · simp only [List.getElem?_toArray, List.getElem?_cons_zero, List.getElem?_cons_succ, Option.some.injEq] at ho
      subst ho
      obtain rfl := F9 (hd ⟨9, .data⟩ (by simp) rfl)
      have O'1 := F24; obtain ⟨_, _, _, _⟩ := O'1
      refine wpOp_step rfl (fun K hK => ?_)
      go_simp
      refine hK _ _ ?_
      exact ⟨_, _, _, _, _, _, _, _, _, _, _, _, _, _, _, _, _, _, _, _, rfl, fun h => F0 (ls (by decide) h), fun h => F1 (ls (by decide) h), fun h => F2 (ls (by decide) h), fun h => F3 (ls (by decide) h), fun h => F4 (ls (by decide) h), fun h => F5 (ls (by decide) h), fun h => F6 (ls (by decide) h), fun h => F7 (ls (by decide) h), fun h => F8 (ls (by decide) h), fun h => F9 (ls (by decide) h), fun _ => rfl, fun h => F11 (ls (by decide) h), fun h => F12 (ls (by decide) h), fun h => F13 (ls (by decide) h), fun h => F14 (ls (by decide) h), fun h => F15 (ls (by decide) h), fun h => F16 (ls (by decide) h), fun h => F17 (ls (by decide) h), fun h => F18 (ls (by decide) h), fun h => F19 (ls (by decide) h), fun h => F20 (ls (by decide) h), fun h => F21 (ls (by decide) h), F22, F23, F24, F25, F26⟩
    · simp only [List.getElem?_toArray, List.getElem?_cons_zero, List.getElem?_cons_succ, Option.some.injEq] at ho
      subst ho
      obtain rfl := F10 (hd ⟨10, .data⟩ (by simp) rfl)
      refine wpOp_step rfl (fun K hK => ?_)
      go_simp
      go_at_call 33; refine (H4.out.call _).mono ?_; rintro e w' ⟨rfl, hb⟩
      refine hK _ _ ?_
      exact ⟨_, _, _, _, _, _, _, _, _, _, _, _, _, _, _, _, _, _, _, _, rfl, fun h => F0 (ls (by decide) h), fun h => F1 (ls (by decide) h), fun h => F2 (ls (by decide) h), fun h => F3 (ls (by decide) h), fun h => F4 (ls (by decide) h), fun h => F5 (ls (by decide) h), fun h => F6 (ls (by decide) h), fun h => F7 (ls (by decide) h), fun h => F8 (ls (by decide) h), fun h => F9 (ls (by decide) h), fun h => F10 (ls (by decide) h), fun _ => rfl, fun h => F12 (ls (by decide) h), fun h => F13 (ls (by decide) h), fun h => F14 (ls (by decide) h), fun h => F15 (ls (by decide) h), fun h => F16 (ls (by decide) h), fun h => F17 (ls (by decide) h), fun h => F18 (ls (by decide) h), fun h => ((F19 (ls (by decide) h))).call hb, fun h => ((F20 (ls (by decide) h))).call hb, fun h => F21 (ls (by decide) h), bt F22 hb, (F23).call hb, (F24).call hb, (let ⟨u, v, c⟩ := F25; ⟨u, v, (c).call hb⟩), (let ⟨u, v, c⟩ := F26; ⟨u, v, (c).call hb⟩)⟩
    · simp only [List.getElem?_toArray, List.getElem?_cons_zero, List.getElem?_cons_succ, Option.some.injEq] at ho
      subst ho
      refine wpOp_step rfl (fun K hK => ?_)
      go_simp
      refine hK _ _ ?_
      exact ⟨_, _, _, _, _, _, _, _, _, _, _, _, _, _, _, _, _, _, _, _, rfl, fun h => F0 (ls (by decide) h), fun h => F1 (ls (by decide) h), fun h => F2 (ls (by decide) h), fun h => F3 (ls (by decide) h), fun h => F4 (ls (by decide) h), fun h => F5 (ls (by decide) h), fun h => F6 (ls (by decide) h), fun h => F7 (ls (by decide) h), fun h => F8 (ls (by decide) h), fun h => F9 (ls (by decide) h), fun h => F10 (ls (by decide) h), fun h => F11 (ls (by decide) h), fun _ => rfl, fun h => F13 (ls (by decide) h), fun h => F14 (ls (by decide) h), fun h => F15 (ls (by decide) h), fun h => F16 (ls (by decide) h), fun h => F17 (ls (by decide) h), fun h => F18 (ls (by decide) h), fun h => F19 (ls (by decide) h), fun h => F20 (ls (by decide) h), fun h => F21 (ls (by decide) h), F22, F23, F24, F25, F26⟩
    · simp only [List.getElem?_toArray, List.getElem?_cons_zero, List.getElem?_cons_succ, Option.some.injEq] at ho
      subst ho
      refine wpOp_step rfl (fun K hK => ?_)
      go_simp
      refine hK _ _ ?_
      exact ⟨_, _, _, _, _, _, _, _, _, _, _, _, _, _, _, _, _, _, _, _, rfl, fun h => F0 (ls (by decide) h), fun h => F1 (ls (by decide) h), fun h => F2 (ls (by decide) h), fun h => F3 (ls (by decide) h), fun h => F4 (ls (by decide) h), fun h => F5 (ls (by decide) h), fun h => F6 (ls (by decide) h), fun h => F7 (ls (by decide) h), fun h => F8 (ls (by decide) h), fun h => F9 (ls (by decide) h), fun h => F10 (ls (by decide) h), fun h => F11 (ls (by decide) h), fun h => F12 (ls (by decide) h), fun _ => rfl, fun h => F14 (ls (by decide) h), fun h => F15 (ls (by decide) h), fun h => F16 (ls (by decide) h), fun h => F17 (ls (by decide) h), fun h => F18 (ls (by decide) h), fun h => F19 (ls (by decide) h), fun h => F20 (ls (by decide) h), fun h => F21 (ls (by decide) h), F22, F23, F24, F25, F26⟩
    · simp only [List.getElem?_toArray, List.getElem?_cons_zero, List.getElem?_cons_succ, Option.some.injEq] at ho
      subst ho
      obtain rfl := F13 (hd ⟨13, .data⟩ (by simp) rfl)
      have O'1 := F24; obtain ⟨_, _, _, _⟩ := O'1
      refine wpOp_step rfl (fun K hK => ?_)
      go_simp
      refine hK _ _ ?_
      exact ⟨_, _, _, _, _, _, _, _, _, _, _, _, _, _, _, _, _, _, _, _, rfl, fun h => F0 (ls (by decide) h), fun h => F1 (ls (by decide) h), fun h => F2 (ls (by decide) h), fun h => F3 (ls (by decide) h), fun h => F4 (ls (by decide) h), fun h => F5 (ls (by decide) h), fun h => F6 (ls (by decide) h), fun h => F7 (ls (by decide) h), fun h => F8 (ls (by decide) h), fun h => F9 (ls (by decide) h), fun h => F10 (ls (by decide) h), fun h => F11 (ls (by decide) h), fun h => F12 (ls (by decide) h), fun h => F13 (ls (by decide) h), fun _ => rfl, fun h => F15 (ls (by decide) h), fun h => F16 (ls (by decide) h), fun h => F17 (ls (by decide) h), fun h => F18 (ls (by decide) h), fun h => F19 (ls (by decide) h), fun h => F20 (ls (by decide) h), fun h => F21 (ls (by decide) h), F22, F23, F24, F25, F26⟩
    · simp only [List.getElem?_toArray, List.getElem?_cons_zero, List.getElem?_cons_succ, Option.some.injEq] at ho
      subst ho
      obtain rfl := F12 (hd ⟨12, .data⟩ (by simp) rfl)
      obtain rfl := F14 (hd ⟨14, .data⟩ (by simp) rfl)
      refine wpOp_step rfl (fun K hK => ?_)
      go_simp
      refine hK _ _ ?_
      exact ⟨_, _, _, _, _, _, _, _, _, _, _, _, _, _, _, _, _, _, _, _, rfl, fun h => F0 (ls (by decide) h), fun h => F1 (ls (by decide) h), fun h => F2 (ls (by decide) h), fun h => F3 (ls (by decide) h), fun h => F4 (ls (by decide) h), fun h => F5 (ls (by decide) h), fun h => F6 (ls (by decide) h), fun h => F7 (ls (by decide) h), fun h => F8 (ls (by decide) h), fun h => F9 (ls (by decide) h), fun h => F10 (ls (by decide) h), fun h => F11 (ls (by decide) h), fun h => F12 (ls (by decide) h), fun h => F13 (ls (by decide) h), fun h => F14 (ls (by decide) h), fun _ => rfl, fun h => F16 (ls (by decide) h), fun h => F17 (ls (by decide) h), fun h => F18 (ls (by decide) h), fun h => F19 (ls (by decide) h), fun h => F20 (ls (by decide) h), fun h => F21 (ls (by decide) h), F22, F23, F24, F25, F26⟩
    · simp only [List.getElem?_toArray, List.getElem?_cons_zero, List.getElem?_cons_succ, Option.some.injEq] at ho
      subst ho
      obtain rfl := F15 (hd ⟨15, .data⟩ (by simp) rfl)
      refine wpOp_step rfl (fun K hK => ?_)
      go_simp
      go_at_call 48; refine (H5.out.call _).mono ?_; rintro e w' ⟨rfl, hb⟩
      refine hK _ _ ?_
      exact ⟨_, _, _, _, _, _, _, _, _, _, _, _, _, _, _, _, _, _, _, _, rfl, fun h => F0 (ls (by decide) h), fun h => F1 (ls (by decide) h), fun h => F2 (ls (by decide) h), fun h => F3 (ls (by decide) h), fun h => F4 (ls (by decide) h), fun h => F5 (ls (by decide) h), fun h => F6 (ls (by decide) h), fun h => F7 (ls (by decide) h), fun h => F8 (ls (by decide) h), fun h => F9 (ls (by decide) h), fun h => F10 (ls (by decide) h), fun h => F11 (ls (by decide) h), fun h => F12 (ls (by decide) h), fun h => F13 (ls (by decide) h), fun h => F14 (ls (by decide) h), fun h => F15 (ls (by decide) h), fun _ => rfl, fun h => F17 (ls (by decide) h), fun h => F18 (ls (by decide) h), fun h => ((F19 (ls (by decide) h))).call hb, fun h => ((F20 (ls (by decide) h))).call hb, fun h => F21 (ls (by decide) h), bt F22 hb, (F23).call hb, (F24).call hb, (let ⟨u, v, c⟩ := F25; ⟨u, v, (c).call hb⟩), (let ⟨u, v, c⟩ := F26; ⟨u, v, (c).call hb⟩)⟩
    · simp only [List.getElem?_toArray, List.getElem?_cons_zero, List.getElem?_cons_succ, Option.some.injEq] at ho
      subst ho
      obtain rfl := F11 (hd ⟨11, .data⟩ (by simp) rfl)
      obtain rfl := F16 (hd ⟨16, .data⟩ (by simp) rfl)
      refine wpOp_step rfl (fun K hK => ?_)
      go_simp
      go_at_call 46; refine (H6.out.call _).mono ?_; rintro e w' ⟨rfl, hb⟩
      refine hK _ _ ?_
      exact ⟨_, _, _, _, _, _, _, _, _, _, _, _, _, _, _, _, _, _, _, _, rfl, fun h => F0 (ls (by decide) h), fun h => F1 (ls (by decide) h), fun h => F2 (ls (by decide) h), fun h => F3 (ls (by decide) h), fun h => F4 (ls (by decide) h), fun h => F5 (ls (by decide) h), fun h => F6 (ls (by decide) h), fun h => F7 (ls (by decide) h), fun h => F8 (ls (by decide) h), fun h => F9 (ls (by decide) h), fun h => F10 (ls (by decide) h), fun h => F11 (ls (by decide) h), fun h => F12 (ls (by decide) h), fun h => F13 (ls (by decide) h), fun h => F14 (ls (by decide) h), fun h => F15 (ls (by decide) h), fun h => F16 (ls (by decide) h), fun _ => rfl, fun h => F18 (ls (by decide) h), fun h => ((F19 (ls (by decide) h))).call hb, fun h => ((F20 (ls (by decide) h))).call hb, fun h => F21 (ls (by decide) h), bt F22 hb, (F23).call hb, (F24).call hb, (let ⟨u, v, c⟩ := F25; ⟨u, v, (c).call hb⟩), (let ⟨u, v, c⟩ := F26; ⟨u, v, (c).call hb⟩)⟩
    · simp only [List.getElem?_toArray, List.getElem?_cons_zero, List.getElem?_cons_succ, Option.some.injEq] at ho
      subst ho
      refine wpOp_step rfl (fun K hK => ?_)
      go_simp
      refine hK _ _ ?_
      exact ⟨_, _, _, _, _, _, _, _, _, _, _, _, _, _, _, _, _, _, _, _, rfl, fun h => F0 (ls (by decide) h), fun h => F1 (ls (by decide) h), fun h => F2 (ls (by decide) h), fun h => F3 (ls (by decide) h), fun h => F4 (ls (by decide) h), fun h => F5 (ls (by decide) h), fun h => F6 (ls (by decide) h), fun h => F7 (ls (by decide) h), fun h => F8 (ls (by decide) h), fun h => F9 (ls (by decide) h), fun h => F10 (ls (by decide) h), fun h => F11 (ls (by decide) h), fun h => F12 (ls (by decide) h), fun h => F13 (ls (by decide) h), fun h => F14 (ls (by decide) h), fun h => F15 (ls (by decide) h), fun h => F16 (ls (by decide) h), fun h => F17 (ls (by decide) h), fun _ => rfl, fun h => F19 (ls (by decide) h), fun h => F20 (ls (by decide) h), fun h => F21 (ls (by decide) h), F22, F23, F24, F25, F26⟩
    · simp only [List.getElem?_toArray, List.getElem?_cons_zero, List.getElem?_cons_succ, Option.some.injEq] at ho
      subst ho
      obtain rfl := F8 (hd ⟨8, .data⟩ (by simp) rfl)
      obtain ⟨u'2, v'2, O'2⟩ := F25; have O''2 := O'2; obtain ⟨_, _, _, _⟩ := O''2
      refine wpOp_step rfl (fun K hK => ?_)
      go_simp
      refine hK _ _ ?_
      exact ⟨_, _, _, _, _, _, _, _, _, _, _, _, _, _, _, _, _, _, _, _, rfl, fun h => F0 (ls (by decide) h), fun h => F1 (ls (by decide) h), fun h => F2 (ls (by decide) h), fun h => F3 (ls (by decide) h), fun h => F4 (ls (by decide) h), fun h => F5 (ls (by decide) h), fun h => F6 (ls (by decide) h), fun h => F7 (ls (by decide) h), fun h => F8 (ls (by decide) h), fun h => F9 (ls (by decide) h), fun h => F10 (ls (by decide) h), fun h => F11 (ls (by decide) h), fun h => F12 (ls (by decide) h), fun h => F13 (ls (by decide) h), fun h => F14 (ls (by decide) h), fun h => F15 (ls (by decide) h), fun h => F16 (ls (by decide) h), fun h => F17 (ls (by decide) h), fun h => F18 (ls (by decide) h), fun _ => O'2.store _ _, fun h => ((F20 (ls (by decide) h)).set_ (by first | (simp; done) | (simp; omega))).set_ (by first | (simp; done) | (simp; omega)), fun h => F21 (ls (by decide) h), bs (bs F22 (by first | (simp; done) | (simp; omega))) (by first | (simp; done) | (simp; omega)), ((F23).set_ (by first | (simp; done) | (simp; omega))).set_ (by first | (simp; done) | (simp; omega)), ((F24).set_ (by first | (simp; done) | (simp; omega))).set_ (by first | (simp; done) | (simp; omega)), ⟨_, _, O'2.store _ _⟩, (let ⟨u, v, c⟩ := F26; ⟨u, v, (c.set_ (by first | (simp; done) | (simp; omega))).set_ (by first | (simp; done) | (simp; omega))⟩)⟩
    · simp only [List.getElem?_toArray, List.getElem?_cons_zero, List.getElem?_cons_succ, Option.some.injEq] at ho
      subst ho
      obtain rfl := F17 (hd ⟨17, .data⟩ (by simp) rfl)
      obtain ⟨u'3, v'3, O'3⟩ := F26; have O''3 := O'3; obtain ⟨_, _, _, _⟩ := O''3
      refine wpOp_step rfl (fun K hK => ?_)
      go_simp
      refine hK _ _ ?_
      exact ⟨_, _, _, _, _, _, _, _, _, _, _, _, _, _, _, _, _, _, _, _, rfl, fun h => F0 (ls (by decide) h), fun h => F1 (ls (by decide) h), fun h => F2 (ls (by decide) h), fun h => F3 (ls (by decide) h), fun h => F4 (ls (by decide) h), fun h => F5 (ls (by decide) h), fun h => F6 (ls (by decide) h), fun h => F7 (ls (by decide) h), fun h => F8 (ls (by decide) h), fun h => F9 (ls (by decide) h), fun h => F10 (ls (by decide) h), fun h => F11 (ls (by decide) h), fun h => F12 (ls (by decide) h), fun h => F13 (ls (by decide) h), fun h => F14 (ls (by decide) h), fun h => F15 (ls (by decide) h), fun h => F16 (ls (by decide) h), fun h => F17 (ls (by decide) h), fun h => F18 (ls (by decide) h), fun h => ((F19 (ls (by decide) h)).set_ (by first | (simp; done) | (simp; omega))).set_ (by first | (simp; done) | (simp; omega)), fun _ => O'3.store _ _, fun h => F21 (ls (by decide) h), bs (bs F22 (by first | (simp; done) | (simp; omega))) (by first | (simp; done) | (simp; omega)), ((F23).set_ (by first | (simp; done) | (simp; omega))).set_ (by first | (simp; done) | (simp; omega)), ((F24).set_ (by first | (simp; done) | (simp; omega))).set_ (by first | (simp; done) | (simp; omega)), (let ⟨u, v, c⟩ := F25; ⟨u, v, (c.set_ (by first | (simp; done) | (simp; omega))).set_ (by first | (simp; done) | (simp; omega))⟩), ⟨_, _, O'3.store _ _⟩⟩
    · simp only [List.getElem?_toArray, List.getElem?_cons_zero, List.getElem?_cons_succ, Option.some.injEq] at ho
      subst ho
      obtain rfl := F18 (hd ⟨18, .data⟩ (by simp) rfl)
      refine wpOp_step rfl (fun K hK => ?_)
      go_simp
      refine hK _ _ ?_
      exact ⟨_, _, _, _, _, _, _, _, _, _, _, _, _, _, _, _, _, _, _, _, rfl, fun h => F0 (ls (by decide) h), fun h => F1 (ls (by decide) h), fun h => F2 (ls (by decide) h), fun h => F3 (ls (by decide) h), fun h => F4 (ls (by decide) h), fun h => F5 (ls (by decide) h), fun h => F6 (ls (by decide) h), fun h => F7 (ls (by decide) h), fun h => F8 (ls (by decide) h), fun h => F9 (ls (by decide) h), fun h => F10 (ls (by decide) h), fun h => F11 (ls (by decide) h), fun h => F12 (ls (by decide) h), fun h => F13 (ls (by decide) h), fun h => F14 (ls (by decide) h), fun h => F15 (ls (by decide) h), fun h => F16 (ls (by decide) h), fun h => F17 (ls (by decide) h), fun h => F18 (ls (by decide) h), fun h => F19 (ls (by decide) h), fun h => F20 (ls (by decide) h), fun _ => rfl, F22, F23, F24, F25, F26⟩
  · intro listed A w hall hI
    obtain ⟨s6, s13, s14, s15, s16, s17, s18, s19, s20, s21, s22, s23, s24, s25, s26, s27, s28, s29, s30, s31, rfl, F0, F1, F2, F3, F4, F5, F6, F7, F8, F9, F10, F11, F12, F13, F14, F15, F16, F17, F18, F19, F20, F21, F22, F23, F24, F25, F26⟩ := hI
    obtain rfl := F0 (hall 0 (by decide))
    obtain rfl := F1 (hall 1 (by decide))
    obtain rfl := F2 (hall 2 (by decide))
    obtain rfl := F3 (hall 3 (by decide))
    obtain rfl := F4 (hall 4 (by decide))
    obtain rfl := F5 (hall 5 (by decide))
    obtain rfl := F6 (hall 6 (by decide))
    obtain rfl := F7 (hall 7 (by decide))
    obtain rfl := F8 (hall 8 (by decide))
    obtain rfl := F9 (hall 9 (by decide))
    obtain rfl := F10 (hall 10 (by decide))
    obtain rfl := F11 (hall 11 (by decide))
    obtain rfl := F12 (hall 12 (by decide))
    obtain rfl := F13 (hall 13 (by decide))
    obtain rfl := F14 (hall 14 (by decide))
    obtain rfl := F15 (hall 15 (by decide))
    obtain rfl := F16 (hall 16 (by decide))
    obtain rfl := F17 (hall 17 (by decide))
    obtain rfl := F18 (hall 18 (by decide))
    obtain rfl := F21 (hall 21 (by decide))
    have P19 := F19 (hall 19 (by decide))
    have P20 := F20 (hall 20 (by decide))
    have HB := F22
    have B0 := F23
    have B1 := F24
    have B2 := F25
    have B3 := F26
    clear hall F19 F20 F22 F23 F24 F25 F26 F0 F1 F2 F3 F4 F5 F6 F7 F8 F9 F10 F11 F12 F13 F14 F15 F16 F17 F18 F21
    try dsimp only

    obtain ⟨_, _, _, _⟩ := P19
    obtain ⟨_, _, _, _⟩ := P20
    go_wp2
    exact bodyPost_ret (v := .tuple #[.agg #[.int .u64 (hi x), .int .u64 (lo x)], .agg #[.int .u64 (hi y), .int .u64 (lo y)], .int .i64 s]) (by simp [results, Tryd.results43, go_sem, *]) rfl ⟨rfl, HB⟩
end Go.Proofs
