/- Package dec fits numbers. No condition beyond what the theorems state. -/
import Derived.Test.YtmggffhecopgiaaDoorDivided
import Derived.Test.YtmggffhecopgiaaDoorDecMath
import Derived.Deep.LoopGhost
namespace Go.Proofs
open Go.Shelf Go.RowKit Go.Proofs.Wide

theorem gives_unfold {f : Nat} {args : Array Value} {v : Value} (h : ∀ w : World, Calls Tryd.prog f args w fun e w' => e = .returned v ∧ Below w.heap.size w w') : Hid (Gives f args v) := Lib.hid h

theorem tdiv_size (x y : Int) (hy : y ≠ 0) : (if ((decide (x < 0)) != (decide (y < 0))) = true then -((if x < 0 then -x else x) / (if y < 0 then -y else y)) else (if x < 0 then -x else x) / (if y < 0 then -y else y)) = x.tdiv y ∧
    (if decide (x < 0) = true then -((if x < 0 then -x else x) % (if y < 0 then -y else y)) else (if x < 0 then -x else x) % (if y < 0 then -y else y)) = x.tmod y := by
  have key : ∀ (a b : Int), 0 ≤ a → 0 < b → a / b = a.tdiv b ∧ a % b = a.tmod b := fun a b ha hb => ⟨(Int.tdiv_eq_ediv_of_nonneg ha).symm, (Int.tmod_eq_emod_of_nonneg ha).symm⟩
  by_cases hx : x < 0 <;> by_cases hyn : y < 0
  · obtain ⟨a, b⟩ := key (-x) (-y) (by omega) (by omega); simp [hx, hyn, a, b]
  · obtain ⟨a, b⟩ := key (-x) y (by omega) (by omega); simp [hx, hyn, a, b]
  · obtain ⟨a, b⟩ := key x (-y) (by omega) (by omega); simp [hx, hyn, a, b]
  · obtain ⟨a, b⟩ := key x y (by omega) (by omega); simp [hx, hyn, a, b]

theorem divided_any (x y : Int) (hx : -170141183460469231731687303715884105728 < x) (hx' : x < 170141183460469231731687303715884105728) (hy : -170141183460469231731687303715884105728 < y) (hy' : y < 170141183460469231731687303715884105728) (hz : y ≠ 0)
    (h : (-18446744073709551616 < y ∧ y < 18446744073709551616) ∨ (if x < 0 then -x else x) < (if y < 0 then -y else y)) (w : World) :
    Calls Tryd.prog 49 #[wv x, wv y] w fun e w' => e = .returned (.tuple #[wv (x.tdiv y), wv (x.tmod y)]) ∧ Below w.heap.size w w' := by
  obtain ⟨e1, e2⟩ := tdiv_size x y hz
  have s1 := fun w => size_any x ⟨by omega, by omega⟩ w
  have s2 := fun w => size_any y ⟨by omega, by omega⟩ w
  have n1 := fun w => negative_any x ⟨by omega, by omega⟩ w
  have n2 := fun w => negative_any y ⟨by omega, by omega⟩ w
  have d := fun w => share_any (if x < 0 then -x else x) (if y < 0 then -y else y) (by split <;> omega) (by split <;> omega) (by split <;> omega) (by split <;> omega) (by rcases h with h | h; exact .inl (by split <;> omega); exact .inr h) w
  have g1 := fun w => signed_any ((if x < 0 then -x else x) / (if y < 0 then -y else y)) ((decide (x < 0)) != (decide (y < 0))) w
  have g2 := fun w => signed_any ((if x < 0 then -x else x) % (if y < 0 then -y else y)) (decide (x < 0)) w
  rw [e1] at g1
  rw [e2] at g2
  exact divided_core _ _ _ _ _ _ _ _ _ _ _ _ _ _ _ _ _ _ w (Lib.hid s1) (Lib.hid s2) (Lib.hid d) (Lib.hid n1) (Lib.hid n2) (Lib.hid g1) (Lib.hid g2)

theorem wv_agg (x : Int) : wv x = .agg #[.int .u64 (hi x), .int .u64 (lo x)] := rfl
theorem tdiv_bd (x p : Int) (hp : 0 < p) (hx : -170141183460469231731687303715884105728 < x) (hx' : x < 170141183460469231731687303715884105728) : -170141183460469231731687303715884105728 < x.tdiv p ∧ x.tdiv p < 170141183460469231731687303715884105728 := by
  have e := tdiv_size x p (by omega)
  have b : ∀ z : Int, 0 ≤ z → 0 ≤ z / p ∧ z / p ≤ z := fun z hz => ⟨Int.ediv_nonneg hz (by omega), Int.ediv_le_self _ hz⟩
  have b1 := b x; have b2 := b (-x)
  rw [← e.1]
  have hpn : ¬ p < 0 := by omega
  by_cases h : x < 0
  · have := b2 (by omega); simp [h, hpn]; omega
  · have := b1 (by omega); simp [h, hpn]; omega
theorem norm_s (s : Nat) (x : Int) : norm (s + 1) x = if x % 10 = 0 then norm s (x / 10) else (x, s + 1) := rfl
theorem tdiv10 (y : Int) : (y % 10 = 0 → y.tdiv 10 = y / 10 ∧ y.tmod 10 = 0) ∧ (y % 10 ≠ 0 → y.tmod 10 ≠ 0 ∧ -10 < y.tmod 10 ∧ y.tmod 10 < 10) := by
  obtain ⟨e1, e2⟩ := tdiv_size y 10 (by decide)
  rw [← e1, ← e2]
  by_cases h : y < 0 <;> simp [h] <;> omega
def Ft2I (w0 : World) (x y r p : Int) (s : Nat) (listed : Array Bool) (A : Act) (w : World) : Prop := ∃ (s10 s11 s12 s13 s14 s15 s16 s17 : Value), A = { tmps := #[.agg #[.int .u64 (hi x), .int .u64 (lo x)], .int .i64 (s : Int), .pointer (some ⟨w0.heap.size, 0, none⟩), undef, .pointer (some ⟨w0.heap.size + 1, 0, none⟩), .int .i64 0, undef, undef, .int .i64 (s : Int), .bool true, s10, s11, s12, s13, s14, s15, s16, s17, undef, undef, undef, undef, undef, undef, undef, undef, undef, undef, undef, undef, undef, undef, undef, undef, undef, undef, undef, undef, undef, undef, undef, undef, undef], defers := [] } ∧
  (listed.getD 0 false = true → s11 = .agg #[.int .u64 (hi x), .int .u64 (lo x)]) ∧
  (listed.getD 1 false = true → s12 = .int .i64 (s : Int)) ∧
  (listed.getD 2 false = true → s13 = .int .i64 ((s : Int) - 9)) ∧
  (listed.getD 3 false = true → s14 = .agg #[.int .u64 (hi p), .int .u64 (lo p)]) ∧
  (listed.getD 4 false = true → s15 = .tuple #[.agg #[.int .u64 (hi y), .int .u64 (lo y)], .agg #[.int .u64 (hi r), .int .u64 (lo r)]]) ∧
  (listed.getD 5 false = true → s10 = .tuple #[.agg #[.int .u64 (hi y), .int .u64 (lo y)], .agg #[.int .u64 (hi r), .int .u64 (lo r)]]) ∧
  (listed.getD 6 false = true → s16 = .agg #[.int .u64 (hi y), .int .u64 (lo y)]) ∧
  (listed.getD 7 false = true → s17 = .agg #[.int .u64 (hi r), .int .u64 (lo r)]) ∧
  (listed.getD 8 false = true → Own w (w0.heap.size) (.int .u64 (hi y)) (.int .u64 (lo y))) ∧
  Below w0.heap.size w0 w ∧
  (listed.getD 8 false = false → Own w (w0.heap.size) (.int .u64 (hi x)) (.int .u64 (lo x))) ∧
  (listed.getD 8 false = true → listed.getD 0 false = true) ∧
  (∃ u v, Own w (w0.heap.size + 1) u v)
def Ft5I (w0 : World) (x y q r : Int) (k : Nat) (c8 c9 c10 c11 c12 c13 c14 c15 c16 c17 c26 c27 c28 c29 c30 c31 c32 c33 c34 c35 c36 c37 c38 c39 c40 c41 c42 : Value) (listed : Array Bool) (A : Act) (w : World) : Prop := ∃ (s6 s7 s20 s21 s22 s23 s24 s25 : Value) (g6 g7 : Nat), A = { tmps := #[.agg #[.int .u64 (hi x), .int .u64 (lo x)], .int .i64 ((k + 1 : Nat) : Int), .pointer (some ⟨w0.heap.size, 0, none⟩), undef, .pointer (some ⟨w0.heap.size + 1, 0, none⟩), .int .i64 0, s6, s7, c8, c9, c10, c11, c12, c13, c14, c15, c16, c17, .int .i64 ((k + 1 : Nat) : Int), .bool true, s20, s21, s22, s23, s24, s25, c26, c27, c28, c29, c30, c31, c32, c33, c34, c35, c36, c37, c38, c39, c40, c41, c42], defers := [] } ∧
  (listed.getD 0 false = true → s21 = .agg #[.int .u64 (hi y), .int .u64 (lo y)]) ∧
  (listed.getD 1 false = true → s22 = .agg #[.int .u64 0, .int .u64 10]) ∧
  (listed.getD 2 false = true → s23 = .tuple #[.agg #[.int .u64 (hi q), .int .u64 (lo q)], .agg #[.int .u64 (hi r), .int .u64 (lo r)]]) ∧
  (listed.getD 3 false = true → s20 = .tuple #[.agg #[.int .u64 (hi q), .int .u64 (lo q)], .agg #[.int .u64 (hi r), .int .u64 (lo r)]]) ∧
  (listed.getD 4 false = true → s24 = .agg #[.int .u64 (hi q), .int .u64 (lo q)]) ∧
  (listed.getD 5 false = true → s25 = .agg #[.int .u64 (hi r), .int .u64 (lo r)]) ∧
  (listed.getD 6 false = true → s6 = .pointer (some ⟨g6, 0, none⟩) ∧ w0.heap.size + 1 < g6 ∧ ∃ u v, Own w g6 u v) ∧
  (listed.getD 7 false = true → s7 = .pointer (some ⟨g7, 0, none⟩) ∧ w0.heap.size + 1 < g7 ∧ ∃ u v, Own w g7 u v) ∧
  (listed.getD 8 false = true → listed.getD 6 false = true ∧ Own w g6 (.int .u64 (hi q)) (.int .u64 (lo q))) ∧
  (listed.getD 9 false = true → listed.getD 7 false = true ∧ Own w g7 (.int .u64 (hi r)) (.int .u64 (lo r))) ∧
  (listed.getD 6 false = true → listed.getD 7 false = true → g6 ≠ g7) ∧
  Below w0.heap.size w0 w ∧
  Own w (w0.heap.size) (.int .u64 (hi y)) (.int .u64 (lo y)) ∧
  (∃ u v, Own w (w0.heap.size + 1) u v)

set_option maxHeartbeats 8000000 in
theorem fit_any (x : Int) (s : Nat) (hx : -170141183460469231731687303715884105728 < x) (hx' : x < 170141183460469231731687303715884105728) (hs : s ≤ 18) (w0 : World) :
    Calls Tryd.prog 32 #[wv x, .int .i64 s] w0 fun e w' => e = .returned (.tuple #[.agg #[.int .i64 (outN (fitZ x s)), .int .i64 (outK (fitZ x s))], .int .i64 (outE (fitZ x s))]) ∧ Below w0.heap.size w0 w' := by
  rw [wv_agg]
  have hs18 : (s : Int) ≤ 18 := by omega
  go_enter Tryd.func32, Tryd.ntmps32
  go_upto_if 9 with fail
  go_cut [1] (fun s1 wx => ∃ (y : Int) (k : Nat), s1 = .int .i64 k ∧ k ≤ 9 ∧ k = min s 9 ∧ y = cut x s ∧ -170141183460469231731687303715884105728 < y ∧ y < 170141183460469231731687303715884105728 ∧ Own wx w0.heap.size (.int .u64 (hi y)) (.int .u64 (lo y)) ∧ (∃ u v, Own wx (w0.heap.size + 1) u v) ∧ Below w0.heap.size w0 wx)
  case first =>
    by_cases h9 : (9 : Int) < s
    · have hw9 : IntKind.i64.wrap ((s : Int) - 9) = (s : Int) - 9 := by rw [IntKind.wrap_i64]; omega
      have bp := ten_pos (s - 9)
      have bp2 := ten_le (s - 9) (by omega)
      have bnd := tdiv_bd x _ bp hx hx'
      have HP : Hid (Gives 48 #[.int .i64 ((s : Int) - 9)] (wv (10 ^ (s - 9)))) := gives_unfold fun w => by
        have := power_any (s - 9) (by omega) w
        rw [show ((s - 9 : Nat) : Int) = (s : Int) - 9 by omega] at this
        exact this
      have HD : Hid (Gives 49 #[wv x, wv (10 ^ (s - 9))] (.tuple #[wv (x.tdiv (10 ^ (s - 9))), wv (x.tmod (10 ^ (s - 9)))])) := gives_unfold fun w => divided_any x _ hx hx' (by omega) (by omega) (by omega) (.inl ⟨by omega, by omega⟩) w
      have hcut : cut x s = x.tdiv (10 ^ (s - 9)) := by unfold cut; rw [if_pos (by omega)]
      have HC := Lib.hid hcut
      clear hcut
      generalize (10 : Int) ^ (s - 9) = p at *
      obtain ⟨y, hy⟩ : ∃ y, y = x.tdiv p := ⟨_, rfl⟩
      obtain ⟨r, hr⟩ : ∃ r, r = x.tmod p := ⟨_, rfl⟩
      rw [← hy] at HC bnd HD
      rw [← hr] at HD
      clear hy hr bp bp2
      rw [wv_agg] at HP
      rw [wv_agg, wv_agg, wv_agg, wv_agg] at HD
      go_upto_region 2 with fail
      simp only [h9, decide_true]
      refine wp_region_inv (by kernel_rfl) (by kernel_rfl) (Ft2I w0 x y r p s) ?_ ?_ ?_
      · exact ⟨_, _, _, _, _, _, _, _, rfl, fun h => absurd h l0, fun h => absurd h l0, fun h => absurd h l0, fun h => absurd h l0, fun h => absurd h l0, fun h => absurd h l0, fun h => absurd h l0, fun h => absurd h l0, fun h => absurd h l0, bdr (ba (ba (Below.refl _ _))), fun _ => (Own.new_at (by simp)).alloc _, fun h => absurd h l0, ⟨_, _, Own.new_at (by simp)⟩⟩
      · intro i o listed A w hi ho hd hn hI
        obtain ⟨s10, s11, s12, s13, s14, s15, s16, s17, rfl, F0, F1, F2, F3, F4, F5, F6, F7, F8, F9, F10, F11, F12⟩ := hI
        have hi' : i < 9 := hi
        clear hi
        rcases (by omega : i = 0 ∨ i = 1 ∨ i = 2 ∨ i = 3 ∨ i = 4 ∨ i = 5 ∨ i = 6 ∨ i = 7 ∨ i = 8) with rfl | rfl | rfl | rfl | rfl | rfl | rfl | rfl | rfl
        · simp only [List.getElem?_toArray, List.getElem?_cons_zero, Option.some.injEq] at ho
          subst ho
          have O'0 := F10 (ln hn F11); have O''0 := O'0; obtain ⟨_, _, _, _⟩ := O''0
          refine wpOp_step rfl (fun K hK => ?_)
          go_simp
          refine hK _ _ ?_
          exact ⟨_, _, _, _, _, _, _, _, rfl, fun _ => rfl, fun h => F1 (ls (by decide) h), fun h => F2 (ls (by decide) h), fun h => F3 (ls (by decide) h), fun h => F4 (ls (by decide) h), fun h => F5 (ls (by decide) h), fun h => F6 (ls (by decide) h), fun h => F7 (ls (by decide) h), fun h => F8 (ls (by decide) h), F9, fun h => F10 (lsf (by decide) h), fun _ => lself hn, F12⟩
        · simp only [List.getElem?_toArray, List.getElem?_cons_zero, List.getElem?_cons_succ, Option.some.injEq] at ho
          subst ho
          refine wpOp_step rfl (fun K hK => ?_)
          go_simp
          refine hK _ _ ?_
          exact ⟨_, _, _, _, _, _, _, _, rfl, fun h => F0 (ls (by decide) h), fun _ => rfl, fun h => F2 (ls (by decide) h), fun h => F3 (ls (by decide) h), fun h => F4 (ls (by decide) h), fun h => F5 (ls (by decide) h), fun h => F6 (ls (by decide) h), fun h => F7 (ls (by decide) h), fun h => F8 (ls (by decide) h), F9, fun h => F10 (lsf (by decide) h), fun h => la (F11 (ls (by decide) h)), F12⟩
        · simp only [List.getElem?_toArray, List.getElem?_cons_zero, List.getElem?_cons_succ, Option.some.injEq] at ho
          subst ho
          obtain rfl := F1 (hd ⟨1, .data⟩ (by simp) rfl)
          refine wpOp_step rfl (fun K hK => ?_)
          go_simp
          refine hK _ _ ?_
          exact ⟨_, _, _, _, _, _, _, _, rfl, fun h => F0 (ls (by decide) h), fun h => F1 (ls (by decide) h), fun _ => rfl, fun h => F3 (ls (by decide) h), fun h => F4 (ls (by decide) h), fun h => F5 (ls (by decide) h), fun h => F6 (ls (by decide) h), fun h => F7 (ls (by decide) h), fun h => F8 (ls (by decide) h), F9, fun h => F10 (lsf (by decide) h), fun h => la (F11 (ls (by decide) h)), F12⟩
        · simp only [List.getElem?_toArray, List.getElem?_cons_zero, List.getElem?_cons_succ, Option.some.injEq] at ho
          subst ho
          obtain rfl := F2 (hd ⟨2, .data⟩ (by simp) rfl)
          refine wpOp_step rfl (fun K hK => ?_)
          go_simp
          go_at_call 48; refine (HP.out.call _).mono ?_; rintro e w' ⟨rfl, hb⟩
          refine hK _ _ ?_
          exact ⟨_, _, _, _, _, _, _, _, rfl, fun h => F0 (ls (by decide) h), fun h => F1 (ls (by decide) h), fun h => F2 (ls (by decide) h), fun _ => rfl, fun h => F4 (ls (by decide) h), fun h => F5 (ls (by decide) h), fun h => F6 (ls (by decide) h), fun h => F7 (ls (by decide) h), fun h => ((F8 (ls (by decide) h))).call hb, bt F9 hb, fun h => ((F10 (lsf (by decide) h))).call hb, fun h => la (F11 (ls (by decide) h)), (let ⟨u, v, c⟩ := F12; ⟨u, v, (c).call hb⟩)⟩
        · simp only [List.getElem?_toArray, List.getElem?_cons_zero, List.getElem?_cons_succ, Option.some.injEq] at ho
          subst ho
          obtain rfl := F0 (hd ⟨0, .data⟩ (by simp) rfl)
          obtain rfl := F3 (hd ⟨3, .data⟩ (by simp) rfl)
          refine wpOp_step rfl (fun K hK => ?_)
          go_simp
          go_at_call 49; refine (HD.out.call _).mono ?_; rintro e w' ⟨rfl, hb⟩
          refine hK _ _ ?_
          exact ⟨_, _, _, _, _, _, _, _, rfl, fun h => F0 (ls (by decide) h), fun h => F1 (ls (by decide) h), fun h => F2 (ls (by decide) h), fun h => F3 (ls (by decide) h), fun _ => rfl, fun h => F5 (ls (by decide) h), fun h => F6 (ls (by decide) h), fun h => F7 (ls (by decide) h), fun h => ((F8 (ls (by decide) h))).call hb, bt F9 hb, fun h => ((F10 (lsf (by decide) h))).call hb, fun h => la (F11 (ls (by decide) h)), (let ⟨u, v, c⟩ := F12; ⟨u, v, (c).call hb⟩)⟩
        · simp only [List.getElem?_toArray, List.getElem?_cons_zero, List.getElem?_cons_succ, Option.some.injEq] at ho
          subst ho
          obtain rfl := F4 (hd ⟨4, .data⟩ (by simp) rfl)
          refine wpOp_step rfl (fun K hK => ?_)
          go_simp
          refine hK _ _ ?_
          exact ⟨_, _, _, _, _, _, _, _, rfl, fun h => F0 (ls (by decide) h), fun h => F1 (ls (by decide) h), fun h => F2 (ls (by decide) h), fun h => F3 (ls (by decide) h), fun h => F4 (ls (by decide) h), fun _ => rfl, fun h => F6 (ls (by decide) h), fun h => F7 (ls (by decide) h), fun h => F8 (ls (by decide) h), F9, fun h => F10 (lsf (by decide) h), fun h => la (F11 (ls (by decide) h)), F12⟩
        · simp only [List.getElem?_toArray, List.getElem?_cons_zero, List.getElem?_cons_succ, Option.some.injEq] at ho
          subst ho
          obtain rfl := F5 (hd ⟨5, .data⟩ (by simp) rfl)
          refine wpOp_step rfl (fun K hK => ?_)
          go_simp
          refine hK _ _ ?_
          exact ⟨_, _, _, _, _, _, _, _, rfl, fun h => F0 (ls (by decide) h), fun h => F1 (ls (by decide) h), fun h => F2 (ls (by decide) h), fun h => F3 (ls (by decide) h), fun h => F4 (ls (by decide) h), fun h => F5 (ls (by decide) h), fun _ => rfl, fun h => F7 (ls (by decide) h), fun h => F8 (ls (by decide) h), F9, fun h => F10 (lsf (by decide) h), fun h => la (F11 (ls (by decide) h)), F12⟩
        · simp only [List.getElem?_toArray, List.getElem?_cons_zero, List.getElem?_cons_succ, Option.some.injEq] at ho
          subst ho
          obtain rfl := F5 (hd ⟨5, .data⟩ (by simp) rfl)
          refine wpOp_step rfl (fun K hK => ?_)
          go_simp
          refine hK _ _ ?_
          exact ⟨_, _, _, _, _, _, _, _, rfl, fun h => F0 (ls (by decide) h), fun h => F1 (ls (by decide) h), fun h => F2 (ls (by decide) h), fun h => F3 (ls (by decide) h), fun h => F4 (ls (by decide) h), fun h => F5 (ls (by decide) h), fun h => F6 (ls (by decide) h), fun _ => rfl, fun h => F8 (ls (by decide) h), F9, fun h => F10 (lsf (by decide) h), fun h => la (F11 (ls (by decide) h)), F12⟩
        · simp only [List.getElem?_toArray, List.getElem?_cons_zero, List.getElem?_cons_succ, Option.some.injEq] at ho
          subst ho
          obtain rfl := F6 (hd ⟨6, .data⟩ (by simp) rfl)
          have O'0 := F10 (lf hn); have O''0 := O'0; obtain ⟨_, _, _, _⟩ := O''0
          refine wpOp_step rfl (fun K hK => ?_)
          go_simp
          refine hK _ _ ?_
          exact ⟨_, _, _, _, _, _, _, _, rfl, fun h => F0 (ls (by decide) h), fun h => F1 (ls (by decide) h), fun h => F2 (ls (by decide) h), fun h => F3 (ls (by decide) h), fun h => F4 (ls (by decide) h), fun h => F5 (ls (by decide) h), fun h => F6 (ls (by decide) h), fun h => F7 (ls (by decide) h), fun _ => O'0.store _ _, bs (bs F9 (by first | (simp; done) | (simp; omega))) (by first | (simp; done) | (simp; omega)), fun h => lx hn h, fun _ => la (hd ⟨0, .phase⟩ (by simp) rfl), (let ⟨u, v, c⟩ := F12; ⟨u, v, (c.set_ (by first | (simp; done) | (simp; omega))).set_ (by first | (simp; done) | (simp; omega))⟩)⟩
      · intro listed A w hall hI
        obtain ⟨s10, s11, s12, s13, s14, s15, s16, s17, rfl, F0, F1, F2, F3, F4, F5, F6, F7, F8, F9, F10, F11, F12⟩ := hI
        obtain rfl := F0 (hall 0 (by decide))
        obtain rfl := F1 (hall 1 (by decide))
        obtain rfl := F2 (hall 2 (by decide))
        obtain rfl := F3 (hall 3 (by decide))
        obtain rfl := F4 (hall 4 (by decide))
        obtain rfl := F5 (hall 5 (by decide))
        obtain rfl := F6 (hall 6 (by decide))
        obtain rfl := F7 (hall 7 (by decide))
        have P8 := F8 (hall 8 (by decide))
        have HB := F9
        have B1 := F12
        clear hall F8 F9 F10 F11 F12 F0 F1 F2 F3 F4 F5 F6 F7
        try dsimp only

        obtain ⟨_, _, _, _⟩ := P8
        go_wp2
        go_meet
        exact ⟨y, 9, rfl, by omega, by omega, HC.out.symm, bnd.1, bnd.2, ⟨‹_›, ‹_›, ‹_›, ‹_›⟩, B1, HB⟩
    · have h9' : ¬ 9 < s := by omega
      have hcut : cut x s = x := by unfold cut; rw [if_neg (by omega)]
      go_wp2
      go_meet
      exact ⟨x, s, rfl, by omega, by omega, hcut.symm, hx, hx', (Own.new_at (by simp)).alloc _, ⟨_, _, Own.new_at (by simp)⟩, ba (ba (Below.refl _ _))⟩
  case rest =>
    obtain ⟨z, j, rfl, hj, hjm, hz, hz1, hz2, OO, OU, HBB⟩ := hcut
    have hfit : fitZ x s = if -999999999999999999 ≤ (norm j z).1 ∧ (norm j z).1 ≤ 999999999999999999 then some (norm j z) else none := by unfold fitZ; rw [← hz, ← hjm]
    have HF := Lib.hid hfit
    clear hfit hz hjm hs18 hs hx hx'
    go_wp2
    go_loopw [1] (fun s1 wx => ∃ (y : Int) (k : Nat), s1 = .int .i64 k ∧ k ≤ 9 ∧ norm k y = norm j z ∧ -170141183460469231731687303715884105728 < y ∧ y < 170141183460469231731687303715884105728 ∧ Own wx w0.heap.size (.int .u64 (hi y)) (.int .u64 (lo y)) ∧ (∃ u v, Own wx (w0.heap.size + 1) u v) ∧ Below w0.heap.size w0 wx) (fun s1 _ => (intOf s1).toNat)
    case atStart => exact ⟨z, j, rfl, hj, rfl, hz1, hz2, OO, OU, HBB⟩
    case round =>
      obtain ⟨y, k, rfl, hk, hn, hy, hy', O0, ⟨c1, c2, O1⟩, HB⟩ := hrel
      cases k with
      | zero =>
        have HNF : Hid (norm j z = (y, 0)) := Lib.hid hn.symm
        have hcs := O0
        have HCS := Lib.hid O0
        have B1 := O1
        clear hn O0 O1
        obtain ⟨_, _, _, _⟩ := hcs
        have hcs := HCS.out
        have hfit := HF.out
        rw [HNF.out] at hfit
        have HS : Hid (Gives 56 #[wv y] (wv (if y < 0 then -y else y))) := gives_unfold fun w => size_any y ⟨by omega, by omega⟩ w
        have HW : Hid (Gives 33 #[.int .i64 999999999999999999] (wv 999999999999999999)) := gives_unfold fun w => wideOf_any 999999999999999999 (by decide) (by decide) w
        have HC : Hid (Gives 54 #[wv (if y < 0 then -y else y), wv 999999999999999999] (.int .i64 (if (if y < 0 then -y else y) < 999999999999999999 then -1 else if (if y < 0 then -y else y) = 999999999999999999 then 0 else 1))) := gives_unfold fun w => cmp_lemma _ _ (by unfold InW; split <;> omega) w
        by_cases hG : -999999999999999999 ≤ y ∧ y ≤ 999999999999999999
        · obtain ⟨c, hc⟩ : ∃ c : Int, c = (if (if y < 0 then -y else y) < 999999999999999999 then -1 else if (if y < 0 then -y else y) = 999999999999999999 then 0 else 1) := ⟨_, rfl⟩
          rw [← hc] at HC
          have hc0 : ¬ 0 < c := by rw [hc]; split <;> (try split) <;> (try split) <;> omega
          generalize (if y < 0 then -y else y) = a at *
          rw [if_pos hG] at hfit
          have HFF := Lib.hid hfit
          rw [wv_agg, wv_agg] at HS HC
          rw [wv_agg] at HW
          have hlow : IntKind.i64.wrap (lo y) = y := by rw [IntKind.wrap_i64]; unfold lo; omega
          clear hfit hc hG
          obtain ⟨_, _, _, _⟩ := hcs
          go_wp2_with (first
            | (go_at_call 56; refine (HS.out.call _).mono ?_; rintro e w1 ⟨rfl, hb1⟩)
            | (go_at_call 33; refine (HW.out.call _).mono ?_; rintro e w2 ⟨rfl, hb2⟩)
            | (go_at_call 54; refine (HC.out.call _).mono ?_; rintro e w3 ⟨rfl, hb3⟩; obtain ⟨_, _, _, _⟩ := ((HCS.out.call hb1).call hb2).call hb3; obtain ⟨_, _, _, _⟩ := ((B1.call hb1).call hb2).call hb3))
          exact bodyPost_ret (v := .tuple #[.agg #[.int .i64 y, .int .i64 0], .int .i64 0]) (by simp [results, Tryd.results32, go_sem, *]) rfl ⟨by rw [HFF.out]; rfl, bs (bs (bt (bt (bt HB hb1) hb2) hb3) (by simp)) (by simp)⟩
        · obtain ⟨c, hc⟩ : ∃ c : Int, c = (if (if y < 0 then -y else y) < 999999999999999999 then -1 else if (if y < 0 then -y else y) = 999999999999999999 then 0 else 1) := ⟨_, rfl⟩
          rw [← hc] at HC
          have hc0 : 0 < c := by rw [hc]; split <;> (try split) <;> (try split) <;> omega
          generalize (if y < 0 then -y else y) = a at *
          rw [if_neg hG] at hfit
          have HFF := Lib.hid hfit
          rw [wv_agg, wv_agg] at HS HC
          rw [wv_agg] at HW
          clear hfit hc hG
          obtain ⟨_, _, _, _⟩ := hcs
          go_wp2_with (first
            | (go_at_call 56; refine (HS.out.call _).mono ?_; rintro e w1 ⟨rfl, hb1⟩)
            | (go_at_call 33; refine (HW.out.call _).mono ?_; rintro e w2 ⟨rfl, hb2⟩)
            | (go_at_call 54; refine (HC.out.call _).mono ?_; rintro e w3 ⟨rfl, hb3⟩; obtain ⟨_, _, _, _⟩ := ((HCS.out.call hb1).call hb2).call hb3; obtain ⟨_, _, _, _⟩ := ((B1.call hb1).call hb2).call hb3))
          exact bodyPost_ret (v := .tuple #[.agg #[.int .i64 0, .int .i64 0], .int .i64 53]) (by simp [results, Tryd.results32, go_sem, *]) rfl ⟨by rw [HFF.out]; rfl, bs (bs (bt (bt (bt HB hb1) hb2) hb3) (by simp)) (by simp)⟩
      | succ k =>
        have hk0 : (0 : Int) < ((k + 1 : Nat) : Int) := by omega
        have HT : Hid (Gives 33 #[.int .i64 10] (.agg #[.int .u64 0, .int .u64 10])) := gives_unfold fun w => wideOf_any 10 (by decide) (by decide) w
        have HD : Hid (Gives 49 #[wv y, wv 10] (.tuple #[wv (y.tdiv 10), wv (y.tmod 10)])) := gives_unfold fun w => divided_any y 10 hy hy' (by decide) (by decide) (by decide) (.inl ⟨by decide, by decide⟩) w
        rw [show wv 10 = .agg #[.int .u64 0, .int .u64 10] from rfl, wv_agg, wv_agg, wv_agg] at HD
        have bnd := tdiv_bd y 10 (by decide) hy hy'
        have hq0 : y % 10 = 0 → y.tdiv 10 = y / 10 ∧ y.tmod 10 = 0 := fun h => (tdiv10 y).1 h
        have hq1 : y % 10 ≠ 0 → y.tmod 10 ≠ 0 ∧ -10 < y.tmod 10 ∧ y.tmod 10 < 10 := fun h => (tdiv10 y).2 h
        obtain ⟨q, hq⟩ : ∃ q, q = y.tdiv 10 := ⟨_, rfl⟩
        obtain ⟨r, hr⟩ : ∃ r, r = y.tmod 10 := ⟨_, rfl⟩
        rw [← hq] at HD bnd hq0
        rw [← hr] at HD hq0 hq1
        have HN := Lib.hid hn
        clear hq hr hn
        have Hq0 := Lib.hid hq0
        have Hq1 := Lib.hid hq1
        clear hq0 hq1
        go_upto_region 5 with fail
        refine wp_region_inv (by kernel_rfl) (by kernel_rfl) (Ft5I w0 x y q r k u8 u9 u10 u11 u12 u13 u14 u15 u16 u17 u26 u27 u28 u29 u30 u31 u32 u33 u34 u35 u36 u37 u38 u39 u40 u41 u42) ?_ ?_ ?_
        · exact ⟨_, _, _, _, _, _, _, _, 0, 0, rfl, fun h => absurd h l0, fun h => absurd h l0, fun h => absurd h l0, fun h => absurd h l0, fun h => absurd h l0, fun h => absurd h l0, fun h => absurd h l0, fun h => absurd h l0, fun h => absurd h l0, fun h => absurd h l0, fun h => absurd h l0, bdr HB, O0.drew, ⟨_, _, O1.drew⟩⟩
        · intro i o listed A w hi ho hd hn hI
          obtain ⟨s6, s7, s20, s21, s22, s23, s24, s25, g6, g7, rfl, F0, F1, F2, F3, F4, F5, F6, F7, F8, F9, F10, F11, F12, F13⟩ := hI
          have hi' : i < 10 := hi
          clear hi
          rcases (by omega : i = 0 ∨ i = 1 ∨ i = 2 ∨ i = 3 ∨ i = 4 ∨ i = 5 ∨ i = 6 ∨ i = 7 ∨ i = 8 ∨ i = 9) with rfl | rfl | rfl | rfl | rfl | rfl | rfl | rfl | rfl | rfl
          · simp only [List.getElem?_toArray, List.getElem?_cons_zero, Option.some.injEq] at ho
            subst ho
            have O'0 := F12; obtain ⟨_, _, _, _⟩ := O'0
            refine wpOp_step rfl (fun K hK => ?_)
            go_simp
            refine hK _ _ ?_
            exact ⟨_, _, _, _, _, _, _, _, g6, g7, rfl, fun _ => rfl, fun h => F1 (ls (by decide) h), fun h => F2 (ls (by decide) h), fun h => F3 (ls (by decide) h), fun h => F4 (ls (by decide) h), fun h => F5 (ls (by decide) h), fun h => F6 (ls (by decide) h), fun h => F7 (ls (by decide) h), fun h => let ⟨x, c⟩ := F8 (ls (by decide) h); ⟨la x, c⟩, fun h => let ⟨x, c⟩ := F9 (ls (by decide) h); ⟨la x, c⟩, fun h h' => F10 (ls (by decide) h) (ls (by decide) h'), F11, F12, F13⟩
          · simp only [List.getElem?_toArray, List.getElem?_cons_zero, List.getElem?_cons_succ, Option.some.injEq] at ho
            subst ho
            refine wpOp_step rfl (fun K hK => ?_)
            go_simp
            go_at_call 33; refine (HT.out.call _).mono ?_; rintro e w' ⟨rfl, hb⟩
            refine hK _ _ ?_
            exact ⟨_, _, _, _, _, _, _, _, g6, g7, rfl, fun h => F0 (ls (by decide) h), fun _ => rfl, fun h => F2 (ls (by decide) h), fun h => F3 (ls (by decide) h), fun h => F4 (ls (by decide) h), fun h => F5 (ls (by decide) h), fun h => let ⟨a, b, u, v, c⟩ := F6 (ls (by decide) h); ⟨a, b, u, v, (c).call hb⟩, fun h => let ⟨a, b, u, v, c⟩ := F7 (ls (by decide) h); ⟨a, b, u, v, (c).call hb⟩, fun h => let ⟨x, c⟩ := F8 (ls (by decide) h); ⟨la x, (c).call hb⟩, fun h => let ⟨x, c⟩ := F9 (ls (by decide) h); ⟨la x, (c).call hb⟩, fun h h' => F10 (ls (by decide) h) (ls (by decide) h'), bt F11 hb, (F12).call hb, (let ⟨u, v, c⟩ := F13; ⟨u, v, (c).call hb⟩)⟩
          · simp only [List.getElem?_toArray, List.getElem?_cons_zero, List.getElem?_cons_succ, Option.some.injEq] at ho
            subst ho
            obtain rfl := F0 (hd ⟨0, .data⟩ (by simp) rfl)
            obtain rfl := F1 (hd ⟨1, .data⟩ (by simp) rfl)
            refine wpOp_step rfl (fun K hK => ?_)
            go_simp
            go_at_call 49; refine (HD.out.call _).mono ?_; rintro e w' ⟨rfl, hb⟩
            refine hK _ _ ?_
            exact ⟨_, _, _, _, _, _, _, _, g6, g7, rfl, fun h => F0 (ls (by decide) h), fun h => F1 (ls (by decide) h), fun _ => rfl, fun h => F3 (ls (by decide) h), fun h => F4 (ls (by decide) h), fun h => F5 (ls (by decide) h), fun h => let ⟨a, b, u, v, c⟩ := F6 (ls (by decide) h); ⟨a, b, u, v, (c).call hb⟩, fun h => let ⟨a, b, u, v, c⟩ := F7 (ls (by decide) h); ⟨a, b, u, v, (c).call hb⟩, fun h => let ⟨x, c⟩ := F8 (ls (by decide) h); ⟨la x, (c).call hb⟩, fun h => let ⟨x, c⟩ := F9 (ls (by decide) h); ⟨la x, (c).call hb⟩, fun h h' => F10 (ls (by decide) h) (ls (by decide) h'), bt F11 hb, (F12).call hb, (let ⟨u, v, c⟩ := F13; ⟨u, v, (c).call hb⟩)⟩
          · simp only [List.getElem?_toArray, List.getElem?_cons_zero, List.getElem?_cons_succ, Option.some.injEq] at ho
            subst ho
            obtain rfl := F2 (hd ⟨2, .data⟩ (by simp) rfl)
            refine wpOp_step rfl (fun K hK => ?_)
            go_simp
            refine hK _ _ ?_
            exact ⟨_, _, _, _, _, _, _, _, g6, g7, rfl, fun h => F0 (ls (by decide) h), fun h => F1 (ls (by decide) h), fun h => F2 (ls (by decide) h), fun _ => rfl, fun h => F4 (ls (by decide) h), fun h => F5 (ls (by decide) h), fun h => F6 (ls (by decide) h), fun h => F7 (ls (by decide) h), fun h => let ⟨x, c⟩ := F8 (ls (by decide) h); ⟨la x, c⟩, fun h => let ⟨x, c⟩ := F9 (ls (by decide) h); ⟨la x, c⟩, fun h h' => F10 (ls (by decide) h) (ls (by decide) h'), F11, F12, F13⟩
          · simp only [List.getElem?_toArray, List.getElem?_cons_zero, List.getElem?_cons_succ, Option.some.injEq] at ho
            subst ho
            obtain rfl := F3 (hd ⟨3, .data⟩ (by simp) rfl)
            refine wpOp_step rfl (fun K hK => ?_)
            go_simp
            refine hK _ _ ?_
            exact ⟨_, _, _, _, _, _, _, _, g6, g7, rfl, fun h => F0 (ls (by decide) h), fun h => F1 (ls (by decide) h), fun h => F2 (ls (by decide) h), fun h => F3 (ls (by decide) h), fun _ => rfl, fun h => F5 (ls (by decide) h), fun h => F6 (ls (by decide) h), fun h => F7 (ls (by decide) h), fun h => let ⟨x, c⟩ := F8 (ls (by decide) h); ⟨la x, c⟩, fun h => let ⟨x, c⟩ := F9 (ls (by decide) h); ⟨la x, c⟩, fun h h' => F10 (ls (by decide) h) (ls (by decide) h'), F11, F12, F13⟩
          · simp only [List.getElem?_toArray, List.getElem?_cons_zero, List.getElem?_cons_succ, Option.some.injEq] at ho
            subst ho
            obtain rfl := F3 (hd ⟨3, .data⟩ (by simp) rfl)
            refine wpOp_step rfl (fun K hK => ?_)
            go_simp
            refine hK _ _ ?_
            exact ⟨_, _, _, _, _, _, _, _, g6, g7, rfl, fun h => F0 (ls (by decide) h), fun h => F1 (ls (by decide) h), fun h => F2 (ls (by decide) h), fun h => F3 (ls (by decide) h), fun h => F4 (ls (by decide) h), fun _ => rfl, fun h => F6 (ls (by decide) h), fun h => F7 (ls (by decide) h), fun h => let ⟨x, c⟩ := F8 (ls (by decide) h); ⟨la x, c⟩, fun h => let ⟨x, c⟩ := F9 (ls (by decide) h); ⟨la x, c⟩, fun h h' => F10 (ls (by decide) h) (ls (by decide) h'), F11, F12, F13⟩
          · simp only [List.getElem?_toArray, List.getElem?_cons_zero, List.getElem?_cons_succ, Option.some.injEq] at ho
            subst ho
            refine wpOp_step rfl (fun K hK => ?_)
            go_simp
            refine hK _ _ ?_
            exact ⟨_, _, _, _, _, _, _, _, w.heap.size, g7, rfl, fun h => F0 (ls (by decide) h), fun h => F1 (ls (by decide) h), fun h => F2 (ls (by decide) h), fun h => F3 (ls (by decide) h), fun h => F4 (ls (by decide) h), fun h => F5 (ls (by decide) h), fun _ => ⟨rfl, (let ⟨_, _, c⟩ := F13; c.lt), _, _, Own.new _ _ _ _⟩, fun h => let ⟨a, b, u, v, c⟩ := F7 (ls (by decide) h); ⟨a, b, u, v, (c).alloc _⟩, fun h => lc hn (F8 (ls (by decide) h)).1, fun h => let ⟨x, c⟩ := F9 (ls (by decide) h); ⟨la x, (c).alloc _⟩, fun _ h => let ⟨_, _, _, _, c⟩ := F7 (ls (by decide) h); Ne.symm (Nat.ne_of_lt c.lt), ba F11, (F12).alloc _, (let ⟨u, v, c⟩ := F13; ⟨u, v, (c).alloc _⟩)⟩
          · simp only [List.getElem?_toArray, List.getElem?_cons_zero, List.getElem?_cons_succ, Option.some.injEq] at ho
            subst ho
            refine wpOp_step rfl (fun K hK => ?_)
            go_simp
            refine hK _ _ ?_
            exact ⟨_, _, _, _, _, _, _, _, g6, w.heap.size, rfl, fun h => F0 (ls (by decide) h), fun h => F1 (ls (by decide) h), fun h => F2 (ls (by decide) h), fun h => F3 (ls (by decide) h), fun h => F4 (ls (by decide) h), fun h => F5 (ls (by decide) h), fun h => let ⟨a, b, u, v, c⟩ := F6 (ls (by decide) h); ⟨a, b, u, v, (c).alloc _⟩, fun _ => ⟨rfl, (let ⟨_, _, c⟩ := F13; c.lt), _, _, Own.new _ _ _ _⟩, fun h => let ⟨x, c⟩ := F8 (ls (by decide) h); ⟨la x, (c).alloc _⟩, fun h => lc hn (F9 (ls (by decide) h)).1, fun h _ => let ⟨_, _, _, _, c⟩ := F6 (ls (by decide) h); Nat.ne_of_lt c.lt, ba F11, (F12).alloc _, (let ⟨u, v, c⟩ := F13; ⟨u, v, (c).alloc _⟩)⟩
          · simp only [List.getElem?_toArray, List.getElem?_cons_zero, List.getElem?_cons_succ, Option.some.injEq] at ho
            subst ho
            obtain ⟨rfl, A6, u6, v6, O6⟩ := F6 (hd ⟨6, .data⟩ (by simp) rfl)
            have O6' := O6; obtain ⟨_, _, _, _⟩ := O6'
            obtain rfl := F4 (hd ⟨4, .data⟩ (by simp) rfl)
            refine wpOp_step rfl (fun K hK => ?_)
            go_simp
            refine hK _ _ ?_
            exact ⟨_, _, _, _, _, _, _, _, g6, g7, rfl, fun h => F0 (ls (by decide) h), fun h => F1 (ls (by decide) h), fun h => F2 (ls (by decide) h), fun h => F3 (ls (by decide) h), fun h => F4 (ls (by decide) h), fun h => F5 (ls (by decide) h), fun _ => ⟨rfl, A6, _, _, O6.store _ _⟩, fun h => let ⟨a, b, u, v, c⟩ := F7 (ls (by decide) h); ⟨a, b, u, v, (c.set_ (F10 (hd ⟨6, .data⟩ (by simp) rfl) (hd ⟨7, .phase⟩ (by simp) rfl))).set_ (F10 (hd ⟨6, .data⟩ (by simp) rfl) (hd ⟨7, .phase⟩ (by simp) rfl))⟩, fun _ => ⟨la (hd ⟨6, .data⟩ (by simp) rfl), O6.store _ _⟩, fun h => let ⟨x, c⟩ := F9 (ls (by decide) h); ⟨la x, (c.set_ (F10 (hd ⟨6, .data⟩ (by simp) rfl) (hd ⟨7, .phase⟩ (by simp) rfl))).set_ (F10 (hd ⟨6, .data⟩ (by simp) rfl) (hd ⟨7, .phase⟩ (by simp) rfl))⟩, fun h h' => F10 (ls (by decide) h) (ls (by decide) h'), bs (bs F11 (by first | (simp; done) | (simp; omega))) (by first | (simp; done) | (simp; omega)), ((F12).set_ (by first | (simp; done) | (simp; omega))).set_ (by first | (simp; done) | (simp; omega)), (let ⟨u, v, c⟩ := F13; ⟨u, v, (c.set_ (by first | (simp; done) | (simp; omega))).set_ (by first | (simp; done) | (simp; omega))⟩)⟩
          · simp only [List.getElem?_toArray, List.getElem?_cons_zero, List.getElem?_cons_succ, Option.some.injEq] at ho
            subst ho
            obtain ⟨rfl, A7, u7, v7, O7⟩ := F7 (hd ⟨7, .data⟩ (by simp) rfl)
            have O7' := O7; obtain ⟨_, _, _, _⟩ := O7'
            obtain rfl := F5 (hd ⟨5, .data⟩ (by simp) rfl)
            refine wpOp_step rfl (fun K hK => ?_)
            go_simp
            refine hK _ _ ?_
            exact ⟨_, _, _, _, _, _, _, _, g6, g7, rfl, fun h => F0 (ls (by decide) h), fun h => F1 (ls (by decide) h), fun h => F2 (ls (by decide) h), fun h => F3 (ls (by decide) h), fun h => F4 (ls (by decide) h), fun h => F5 (ls (by decide) h), fun h => let ⟨a, b, u, v, c⟩ := F6 (ls (by decide) h); ⟨a, b, u, v, (c.set_ (Ne.symm (F10 (hd ⟨6, .phase⟩ (by simp) rfl) (hd ⟨7, .data⟩ (by simp) rfl)))).set_ (Ne.symm (F10 (hd ⟨6, .phase⟩ (by simp) rfl) (hd ⟨7, .data⟩ (by simp) rfl)))⟩, fun _ => ⟨rfl, A7, _, _, O7.store _ _⟩, fun h => let ⟨x, c⟩ := F8 (ls (by decide) h); ⟨la x, (c.set_ (Ne.symm (F10 (hd ⟨6, .phase⟩ (by simp) rfl) (hd ⟨7, .data⟩ (by simp) rfl)))).set_ (Ne.symm (F10 (hd ⟨6, .phase⟩ (by simp) rfl) (hd ⟨7, .data⟩ (by simp) rfl)))⟩, fun _ => ⟨la (hd ⟨7, .data⟩ (by simp) rfl), O7.store _ _⟩, fun h h' => F10 (ls (by decide) h) (ls (by decide) h'), bs (bs F11 (by first | (simp; done) | (simp; omega))) (by first | (simp; done) | (simp; omega)), ((F12).set_ (by first | (simp; done) | (simp; omega))).set_ (by first | (simp; done) | (simp; omega)), (let ⟨u, v, c⟩ := F13; ⟨u, v, (c.set_ (by first | (simp; done) | (simp; omega))).set_ (by first | (simp; done) | (simp; omega))⟩)⟩
        · intro listed A w hall hI
          obtain ⟨s6, s7, s20, s21, s22, s23, s24, s25, g6, g7, rfl, F0, F1, F2, F3, F4, F5, F6, F7, F8, F9, F10, F11, F12, F13⟩ := hI
          obtain rfl := F0 (hall 0 (by decide))
          obtain rfl := F1 (hall 1 (by decide))
          obtain rfl := F2 (hall 2 (by decide))
          obtain rfl := F3 (hall 3 (by decide))
          obtain rfl := F4 (hall 4 (by decide))
          obtain rfl := F5 (hall 5 (by decide))
          obtain ⟨rfl, A6, u6, v6, O6⟩ := F6 (hall 6 (by decide))
          obtain ⟨rfl, A7, u7, v7, O7⟩ := F7 (hall 7 (by decide))
          have P8 := (F8 (hall 8 (by decide))).2
          have P9 := (F9 (hall 9 (by decide))).2
          have N10 := F10 (hall _ (by decide)) (hall _ (by decide))
          have HB := F11
          have B0 := F12
          have B1 := F13
          clear hall F6 F7 F8 F9 F10 F11 F12 F13 F0 F1 F2 F3 F4 F5
          try dsimp only

          clear O6 O7 u6 u7 v6 v7
          have hcs : Own w w0.heap.size (.int .u64 (hi y)) (.int .u64 (lo y)) := B0
          obtain ⟨b1, b2, b3, b4⟩ := B0
          obtain ⟨x1, x2, B1⟩ := B1
          obtain ⟨p1, p2, p3, p4⟩ := P8
          obtain ⟨t1, t2, t3, t4⟩ := P9
          have hg : w0.heap.size ≠ g6 ∧ w0.heap.size + 1 ≠ g6 := ⟨by omega, by omega⟩
          by_cases hy0 : y % 10 = 0
          · obtain ⟨rq, rr⟩ := Hq0.out hy0
            subst rr
            rw [show hi 0 = 0 from rfl] at t1
            rw [show lo 0 = 0 from rfl] at t2
            have hnorm : norm k q = norm j z := by
              have := HN.out
              rw [norm_s, if_pos hy0] at this
              rw [rq]; exact this
            clear Hq0 Hq1 HN rq
            have HNN := Lib.hid hnorm
            clear hnorm hy0
            have hw1 : IntKind.i64.wrap (((k + 1 : Nat) : Int) - 1) = (k : Int) := by rw [IntKind.wrap_i64]; omega
            go_wp2
            go_roundw
            case rel => exact ⟨q, k, rfl, by omega, HNN.out, bnd.1, bnd.2, hcs.store _ _, ⟨_, _, (B1.set_ (by simp)).set_ (by simp)⟩, bs (bs HB (by simp)) (by simp)⟩
            case measure => simp [intOf]
          · have hr := Hq1.out hy0
            have hnorm : norm (k + 1) y = (y, k + 1) := by rw [norm_s, if_neg hy0]
            have hnz : (hi r = 0 ∧ lo r = r ∧ r ≠ 0) ∨ (hi r = 18446744073709551615) := by
              by_cases h : r < 0
              · exact .inr (hi_neg r h (by omega)).1
              · exact .inl ⟨(hi_of r (by omega) (by omega)).1, (hi_of r (by omega) (by omega)).2, hr.1⟩
            rw [hnorm] at HN
            have hneq : (hi r == 0 && lo r == 0) = false := by
              rcases hnz with ⟨a, b, c⟩ | a
              · rw [b]; simp [c]
              · rw [a]; simp
            have HNF : Hid (norm j z = (y, k + 1)) := Lib.hid HN.out.symm
            have HCS := Lib.hid hcs
            clear hnorm HN Hq0 Hq1 hr hy0 hneq
            rcases hnz with ⟨a1, a2, a3⟩ | a1
            · rw [a1] at t1
              rw [a2] at t2
              clear a1 a2
              have hfit := HF.out
              rw [HNF.out] at hfit
              have HS : Hid (Gives 56 #[wv y] (wv (if y < 0 then -y else y))) := gives_unfold fun w => size_any y ⟨by omega, by omega⟩ w
              have HW : Hid (Gives 33 #[.int .i64 999999999999999999] (wv 999999999999999999)) := gives_unfold fun w => wideOf_any 999999999999999999 (by decide) (by decide) w
              have HC : Hid (Gives 54 #[wv (if y < 0 then -y else y), wv 999999999999999999] (.int .i64 (if (if y < 0 then -y else y) < 999999999999999999 then -1 else if (if y < 0 then -y else y) = 999999999999999999 then 0 else 1))) := gives_unfold fun w => cmp_lemma _ _ (by unfold InW; split <;> omega) w
              by_cases hG : -999999999999999999 ≤ y ∧ y ≤ 999999999999999999
              · obtain ⟨c, hc⟩ : ∃ c : Int, c = (if (if y < 0 then -y else y) < 999999999999999999 then -1 else if (if y < 0 then -y else y) = 999999999999999999 then 0 else 1) := ⟨_, rfl⟩
                rw [← hc] at HC
                have hc0 : ¬ 0 < c := by rw [hc]; split <;> (try split) <;> (try split) <;> omega
                generalize (if y < 0 then -y else y) = a at *
                rw [if_pos hG] at hfit
                have HFF := Lib.hid hfit
                rw [wv_agg, wv_agg] at HS HC
                rw [wv_agg] at HW
                have hlow : IntKind.i64.wrap (lo y) = y := by rw [IntKind.wrap_i64]; unfold lo; omega
                clear hfit hc hG
                obtain ⟨_, _, _, _⟩ := hcs
                go_wp2_with (first
                  | (go_at_call 56; refine (HS.out.call _).mono ?_; rintro e w1 ⟨rfl, hb1⟩)
                  | (go_at_call 33; refine (HW.out.call _).mono ?_; rintro e w2 ⟨rfl, hb2⟩)
                  | (go_at_call 54; refine (HC.out.call _).mono ?_; rintro e w3 ⟨rfl, hb3⟩; obtain ⟨_, _, _, _⟩ := ((HCS.out.call hb1).call hb2).call hb3; obtain ⟨_, _, _, _⟩ := ((B1.call hb1).call hb2).call hb3))
                exact bodyPost_ret (v := .tuple #[.agg #[.int .i64 y, .int .i64 ((k + 1 : Nat) : Int)], .int .i64 0]) (by simp [results, Tryd.results32, go_sem, *]) rfl ⟨by rw [HFF.out]; rfl, bs (bs (bt (bt (bt HB hb1) hb2) hb3) (by simp)) (by simp)⟩
              · obtain ⟨c, hc⟩ : ∃ c : Int, c = (if (if y < 0 then -y else y) < 999999999999999999 then -1 else if (if y < 0 then -y else y) = 999999999999999999 then 0 else 1) := ⟨_, rfl⟩
                rw [← hc] at HC
                have hc0 : 0 < c := by rw [hc]; split <;> (try split) <;> (try split) <;> omega
                generalize (if y < 0 then -y else y) = a at *
                rw [if_neg hG] at hfit
                have HFF := Lib.hid hfit
                rw [wv_agg, wv_agg] at HS HC
                rw [wv_agg] at HW
                clear hfit hc hG
                obtain ⟨_, _, _, _⟩ := hcs
                go_wp2_with (first
                  | (go_at_call 56; refine (HS.out.call _).mono ?_; rintro e w1 ⟨rfl, hb1⟩)
                  | (go_at_call 33; refine (HW.out.call _).mono ?_; rintro e w2 ⟨rfl, hb2⟩)
                  | (go_at_call 54; refine (HC.out.call _).mono ?_; rintro e w3 ⟨rfl, hb3⟩; obtain ⟨_, _, _, _⟩ := ((HCS.out.call hb1).call hb2).call hb3; obtain ⟨_, _, _, _⟩ := ((B1.call hb1).call hb2).call hb3))
                exact bodyPost_ret (v := .tuple #[.agg #[.int .i64 0, .int .i64 0], .int .i64 53]) (by simp [results, Tryd.results32, go_sem, *]) rfl ⟨by rw [HFF.out]; rfl, bs (bs (bt (bt (bt HB hb1) hb2) hb3) (by simp)) (by simp)⟩
            · rw [a1] at t1
              have a3 : ¬ (18446744073709551615 : Int) = 0 := by decide
              clear a1
              have hfit := HF.out
              rw [HNF.out] at hfit
              have HS : Hid (Gives 56 #[wv y] (wv (if y < 0 then -y else y))) := gives_unfold fun w => size_any y ⟨by omega, by omega⟩ w
              have HW : Hid (Gives 33 #[.int .i64 999999999999999999] (wv 999999999999999999)) := gives_unfold fun w => wideOf_any 999999999999999999 (by decide) (by decide) w
              have HC : Hid (Gives 54 #[wv (if y < 0 then -y else y), wv 999999999999999999] (.int .i64 (if (if y < 0 then -y else y) < 999999999999999999 then -1 else if (if y < 0 then -y else y) = 999999999999999999 then 0 else 1))) := gives_unfold fun w => cmp_lemma _ _ (by unfold InW; split <;> omega) w
              by_cases hG : -999999999999999999 ≤ y ∧ y ≤ 999999999999999999
              · obtain ⟨c, hc⟩ : ∃ c : Int, c = (if (if y < 0 then -y else y) < 999999999999999999 then -1 else if (if y < 0 then -y else y) = 999999999999999999 then 0 else 1) := ⟨_, rfl⟩
                rw [← hc] at HC
                have hc0 : ¬ 0 < c := by rw [hc]; split <;> (try split) <;> (try split) <;> omega
                generalize (if y < 0 then -y else y) = a at *
                rw [if_pos hG] at hfit
                have HFF := Lib.hid hfit
                rw [wv_agg, wv_agg] at HS HC
                rw [wv_agg] at HW
                have hlow : IntKind.i64.wrap (lo y) = y := by rw [IntKind.wrap_i64]; unfold lo; omega
                clear hfit hc hG
                obtain ⟨_, _, _, _⟩ := hcs
                go_wp2_with (first
                  | (go_at_call 56; refine (HS.out.call _).mono ?_; rintro e w1 ⟨rfl, hb1⟩)
                  | (go_at_call 33; refine (HW.out.call _).mono ?_; rintro e w2 ⟨rfl, hb2⟩)
                  | (go_at_call 54; refine (HC.out.call _).mono ?_; rintro e w3 ⟨rfl, hb3⟩; obtain ⟨_, _, _, _⟩ := ((HCS.out.call hb1).call hb2).call hb3; obtain ⟨_, _, _, _⟩ := ((B1.call hb1).call hb2).call hb3))
                exact bodyPost_ret (v := .tuple #[.agg #[.int .i64 y, .int .i64 ((k + 1 : Nat) : Int)], .int .i64 0]) (by simp [results, Tryd.results32, go_sem, *]) rfl ⟨by rw [HFF.out]; rfl, bs (bs (bt (bt (bt HB hb1) hb2) hb3) (by simp)) (by simp)⟩
              · obtain ⟨c, hc⟩ : ∃ c : Int, c = (if (if y < 0 then -y else y) < 999999999999999999 then -1 else if (if y < 0 then -y else y) = 999999999999999999 then 0 else 1) := ⟨_, rfl⟩
                rw [← hc] at HC
                have hc0 : 0 < c := by rw [hc]; split <;> (try split) <;> (try split) <;> omega
                generalize (if y < 0 then -y else y) = a at *
                rw [if_neg hG] at hfit
                have HFF := Lib.hid hfit
                rw [wv_agg, wv_agg] at HS HC
                rw [wv_agg] at HW
                clear hfit hc hG
                obtain ⟨_, _, _, _⟩ := hcs
                go_wp2_with (first
                  | (go_at_call 56; refine (HS.out.call _).mono ?_; rintro e w1 ⟨rfl, hb1⟩)
                  | (go_at_call 33; refine (HW.out.call _).mono ?_; rintro e w2 ⟨rfl, hb2⟩)
                  | (go_at_call 54; refine (HC.out.call _).mono ?_; rintro e w3 ⟨rfl, hb3⟩; obtain ⟨_, _, _, _⟩ := ((HCS.out.call hb1).call hb2).call hb3; obtain ⟨_, _, _, _⟩ := ((B1.call hb1).call hb2).call hb3))
                exact bodyPost_ret (v := .tuple #[.agg #[.int .i64 0, .int .i64 0], .int .i64 53]) (by simp [results, Tryd.results32, go_sem, *]) rfl ⟨by rw [HFF.out]; rfl, bs (bs (bt (bt (bt HB hb1) hb2) hb3) (by simp)) (by simp)⟩
end Go.Proofs
