/- Numbers of 128 bits: sums, differences, products, signs, comparison, powers of ten. No condition beyond what the theorems state. -/
import Derived.Test.YtmggffhecopgiaaDoorShelfA
import Derived.Test.YtmggffhecopgiaaDoorWordMath
import Derived.WalkKit
import Derived.WalkSpells
import Derived.Lib.Hide
import Derived.Below
namespace Go.Proofs
open Go.Shelf Go.RowKit Go.Proofs.Wide

theorem add64 (x y c : Int) (hx : 0 ≤ x) (hy : 0 ≤ y) (hc0 : 0 ≤ c) (hc : c ≤ 1) (w : World) : (callFunc 69 #[.int .u64 x, .int .u64 y, .int .u64 c]).run Tryd.prog w =
    .ok (.value (.tuple #[.int .u64 ((x + y + c) % 18446744073709551616), .int .u64 ((x + y + c) / 18446744073709551616)])) w := by
  obtain ⟨x, rfl⟩ := Int.eq_ofNat_of_zero_le hx
  obtain ⟨y, rfl⟩ := Int.eq_ofNat_of_zero_le hy
  obtain ⟨c, rfl⟩ := Int.eq_ofNat_of_zero_le hc0
  refine (Any7.bits_Add64 Tryd.lays25 x y c (by omega) w).trans ?_
  congr 5 <;> omega
theorem sub64 (x y b : Int) (hx : 0 ≤ x) (hy : 0 ≤ y) (hy' : y < 18446744073709551616) (hb0 : 0 ≤ b) (hb : b ≤ 1) (w : World) : (callFunc 70 #[.int .u64 x, .int .u64 y, .int .u64 b]).run Tryd.prog w =
    .ok (.value (.tuple #[.int .u64 ((x - y - b) % 18446744073709551616), .int .u64 (bor x (y + b))])) w := by
  obtain ⟨x, rfl⟩ := Int.eq_ofNat_of_zero_le hx
  obtain ⟨y, rfl⟩ := Int.eq_ofNat_of_zero_le hy
  obtain ⟨b, rfl⟩ := Int.eq_ofNat_of_zero_le hb0
  have e1 : (((x + 18446744073709551616 - y - b) % 18446744073709551616 : Nat) : Int) = ((x : Int) - y - b) % 18446744073709551616 := by omega
  have e2 : ((if x < y + b then 1 else 0 : Nat) : Int) = bor (x : Int) (y + b) := by unfold bor; split <;> split <;> omega
  rw [← e1, ← e2]
  exact Any7.bits_Sub64 Tryd.lays26 x y b (by omega) w
theorem add64_0 (x y : Int) (hx : 0 ≤ x) (hy : 0 ≤ y) (w : World) : (callFunc 69 #[.int .u64 x, .int .u64 y, .int .u64 0]).run Tryd.prog w =
    .ok (.value (.tuple #[.int .u64 ((x + y) % 18446744073709551616), .int .u64 ((x + y) / 18446744073709551616)])) w := by
  simpa using add64 x y 0 hx hy (Int.le_refl 0) (by decide) w
theorem sub64_0 (x y : Int) (hx : 0 ≤ x) (hy : 0 ≤ y) (hy' : y < 18446744073709551616) (w : World) : (callFunc 70 #[.int .u64 x, .int .u64 y, .int .u64 0]).run Tryd.prog w =
    .ok (.value (.tuple #[.int .u64 ((x - y) % 18446744073709551616), .int .u64 (bor x y)])) w := by
  simpa using sub64 x y 0 hx hy hy' (Int.le_refl 0) (by decide) w
theorem mul64 (x y : Int) (hx : 0 ≤ x) (hx' : x < 18446744073709551616) (hy : 0 ≤ y) (hy' : y < 18446744073709551616) (w : World) :
    Calls Tryd.prog 71 #[.int .u64 x, .int .u64 y] w fun e w' => e = .returned (.tuple #[.int .u64 (x * y / 18446744073709551616), .int .u64 (x * y % 18446744073709551616)]) ∧ w = w' := by
  obtain ⟨x, rfl⟩ := Int.eq_ofNat_of_zero_le hx
  obtain ⟨y, rfl⟩ := Int.eq_ofNat_of_zero_le hy
  exact (Tryd.bits_Mul64 x y (by omega) (by omega) w).mono fun e w' ⟨h1, h2⟩ => ⟨by rw [h1]; simp, h2.symm⟩

/-- A whole number of 128 bits, as the code holds it. -/
def wv (x : Int) : Value := .agg #[.int .u64 (hi x), .int .u64 (lo x)]
theorem bor_bd (x y : Int) : 0 ≤ bor x y ∧ bor x y ≤ 1 := by unfold bor; split <;> decide

theorem wideOf_any (n : Int) (h0 : -9223372036854775808 ≤ n) (h1 : n ≤ 9223372036854775807) (w : World) :
    Calls Tryd.prog 33 #[.int .i64 n] w fun e w' => e = .returned (wv n) ∧ Below w.heap.size w w' := by
  have e1 : IntKind.u64.wrap (n / 9223372036854775808) = hi n := by rw [IntKind.wrap_u64]; unfold hi; omega
  have e2 : IntKind.u64.wrap n = lo n := by rw [IntKind.wrap_u64]; unfold lo; omega
  go_enter Tryd.func33, Tryd.ntmps33
  go_wp2
  exact bodyPost_ret (v := wv n) (by simp [results, Tryd.results33, go_sem, wv]) rfl ⟨rfl, (Below.refl _ _).alloc (Nat.le_refl _) _⟩

theorem plus_any (x y : Int) (w : World) :
    Calls Tryd.prog 44 #[wv x, wv y] w fun e w' => e = .returned (wv (x + y)) ∧ Below w.heap.size w w' := by
  unfold wv
  rw [← hi_add x y, ← lo_add x y]
  have a := lo_bd x; have b := hi_bd x; have c := lo_bd y; have d := hi_bd y
  generalize hi x = ah at *; generalize lo x = al at *; generalize hi y = bh at *; generalize lo y = bl at *
  obtain ⟨a1, a2⟩ := a; obtain ⟨b1, b2⟩ := b; obtain ⟨c1, c2⟩ := c; obtain ⟨d1, d2⟩ := d
  have k0 : 0 ≤ (al + bl) / 18446744073709551616 := by omega
  have k1 : (al + bl) / 18446744073709551616 ≤ 1 := by omega
  go_enter Tryd.func44, Tryd.ntmps44
  go_wp2_with (first | simp only [add64_0 al bl a1 c1] | simp only [add64 ah bh _ b1 d1 k0 k1])
  exact bodyPost_ret (v := .agg #[.int .u64 _, .int .u64 _]) (by simp [results, Tryd.results44, go_sem]) rfl ⟨rfl, (((Below.refl _ _).alloc (Nat.le_refl _) _).alloc (by simp) _).alloc (by simp; omega) _⟩

theorem minus_any (x y : Int) (w : World) :
    Calls Tryd.prog 45 #[wv x, wv y] w fun e w' => e = .returned (wv (x - y)) ∧ Below w.heap.size w w' := by
  unfold wv
  rw [← hi_sub x y, ← lo_sub x y]
  have a := lo_bd x; have b := hi_bd x; have c := lo_bd y; have d := hi_bd y
  generalize hi x = ah at *; generalize lo x = al at *; generalize hi y = bh at *; generalize lo y = bl at *
  obtain ⟨a1, a2⟩ := a; obtain ⟨b1, b2⟩ := b; obtain ⟨c1, c2⟩ := c; obtain ⟨d1, d2⟩ := d
  obtain ⟨k0, k1⟩ := bor_bd al bl
  go_enter Tryd.func45, Tryd.ntmps45
  go_wp2_with (first | simp only [sub64_0 al bl a1 c1 c2] | simp only [sub64 ah bh _ b1 d1 d2 k0 k1])
  exact bodyPost_ret (v := .agg #[.int .u64 _, .int .u64 _]) (by simp [results, Tryd.results45, go_sem]) rfl ⟨rfl, (((Below.refl _ _).alloc (Nat.le_refl _) _).alloc (by simp) _).alloc (by simp; omega) _⟩

theorem hi_mul' (x y : Int) : IntKind.u64.wrap (IntKind.u64.wrap (lo x * lo y / 18446744073709551616 + IntKind.u64.wrap (hi x * lo y)) + IntKind.u64.wrap (lo x * hi y)) = hi (x * y) := by
  rw [← hi_mul x y]
  simp only [IntKind.wrap_u64]
  omega
theorem times_any (x y : Int) (w : World) :
    Calls Tryd.prog 46 #[wv x, wv y] w fun e w' => e = .returned (wv (x * y)) ∧ Below w.heap.size w w' := by
  have H := Lib.hid (hi_mul' x y)
  have H' := Lib.hid (lo_mul x y)
  unfold wv
  have a := lo_bd x; have b := hi_bd x; have c := lo_bd y; have d := hi_bd y
  generalize hi x = ah at *; generalize lo x = al at *; generalize hi y = bh at *; generalize lo y = bl at *
  obtain ⟨a1, a2⟩ := a; obtain ⟨b1, b2⟩ := b; obtain ⟨c1, c2⟩ := c; obtain ⟨d1, d2⟩ := d
  go_enter Tryd.func46, Tryd.ntmps46
  go_wp2_with (go_at_call 71; refine (mul64 al bl a1 a2 c1 c2 _).mono ?_; rintro e w' ⟨rfl, rfl⟩)
  refine bodyPost_ret (v := .agg #[.int .u64 _, .int .u64 _]) (by simp [results, Tryd.results46, go_sem]; exact ⟨rfl, rfl⟩) rfl ⟨?_, (((Below.refl _ _).alloc (Nat.le_refl _) _).alloc (by simp) _).alloc (by simp; omega) _⟩
  rw [← H.out, ← H'.out]

/-- Within the bounds of 128 bits. -/
def InW (x : Int) : Prop := -170141183460469231731687303715884105728 ≤ x ∧ x < 170141183460469231731687303715884105728

theorem negative_any (x : Int) (hx : InW x) (w : World) :
    Calls Tryd.prog 73 #[wv x] w fun e w' => e = .returned (.bool (decide (x < 0))) ∧ Below w.heap.size w w' := by
  have e1 := neg_iff x hx.1 hx.2
  have b := hi_bd x
  unfold wv
  generalize hi x = ah at *; generalize lo x = al at *
  obtain ⟨b1, b2⟩ := b
  by_cases h : x < 0
  · rw [if_pos h] at e1
    simp only [h, decide_true]
    go_enter Tryd.func73, Tryd.ntmps73
    go_wp2
    go_ret
    exact ⟨by simp, (Below.refl _ _).alloc (Nat.le_refl _) _⟩
  · rw [if_neg h] at e1
    simp only [h, decide_false]
    go_enter Tryd.func73, Tryd.ntmps73
    go_wp2
    go_ret
    exact ⟨by simp, (Below.refl _ _).alloc (Nat.le_refl _) _⟩

/-- Behind a call that only makes memory all that was there reads as it did. -/
theorem bcell {W w1 : World} (hb : Below W.heap.size W w1) : (∀ b o, b < W.heap.size → w1.cell? ⟨b, o, none⟩ = W.cell? ⟨b, o, none⟩) ∧ (∀ b o, b < W.heap.size → w1.frozen? ⟨b, o, none⟩ = W.frozen? ⟨b, o, none⟩) :=
  ⟨fun b o h => hb.cell (p := ⟨b, o, none⟩) h, fun b o h => hb.frozen (p := ⟨b, o, none⟩) h⟩

theorem ba {w w1 : World} {o : Obj} (h : Below w.heap.size w w1) : Below w.heap.size w (w1.alloc o) := h.alloc h.size _
theorem bs {w w1 : World} {p : Addr} {v : Value} (h : Below w.heap.size w w1) (hp : w.heap.size ≤ p.block) : Below w.heap.size w (w1.setCell p v) := h.setCell hp _
theorem bt {w W w1 : World} (h : Below w.heap.size w W) (hb : Below W.heap.size W w1) : Below w.heap.size w w1 := h.trans (hb.mono h.size)

theorem size_any (x : Int) (hx : InW x) (w : World) :
    Calls Tryd.prog 56 #[wv x] w fun e w' => e = .returned (wv (if x < 0 then -x else x)) ∧ Below w.heap.size w w' := by
  by_cases h : x < 0
  · rw [if_pos h, show -x = 0 - x by omega]
    have hb : decide (x < 0) = true := by simpa using h
    have hM := fun w => minus_any 0 x w
    have hN := fun w => negative_any x hx w
    rw [hb] at hN
    rw [show wv 0 = .agg #[.int .u64 0, .int .u64 0] from rfl] at hM
    clear h hb
    unfold wv at hN hM ⊢
    have HN := Lib.hid hN
    have HM := Lib.hid hM
    clear hN hM
    go_enter Tryd.func56, Tryd.ntmps56
    go_wp2_with (first | (go_at_call 73; go_must (refine (HN.out _).mono ?_; rintro e w1 ⟨rfl, hb⟩; obtain ⟨hc, hf⟩ := bcell hb; have hz := hb.size; simp at hz; have z0 : w.heap.size < w1.heap.size := (by omega); have z1 : w.heap.size + 1 < w1.heap.size := (by omega))) | (go_at_call 45; refine (HM.out _).mono ?_; rintro e w2 ⟨rfl, hb2⟩; obtain ⟨hc2, hf2⟩ := bcell hb2))
    exact bodyPost_ret (v := .agg #[.int .u64 _, .int .u64 _]) (by simp [results, Tryd.results56, go_sem, *]) rfl ⟨rfl, by repeat (first | exact Below.refl _ _ | apply ba | (refine bs ?_ (by simp)) | (refine bt ?_ (by assumption)))⟩
  · rw [if_neg h]
    have hb : decide (x < 0) = false := by simpa using h
    have hN := fun w => negative_any x hx w
    rw [hb] at hN
    clear h hb
    unfold wv at hN ⊢
    have HN := Lib.hid hN
    clear hN
    go_enter Tryd.func56, Tryd.ntmps56
    go_wp2_with (first | (go_at_call 73; refine (HN.out _).mono ?_; rintro e w1 ⟨rfl, hb⟩; obtain ⟨hc, hf⟩ := bcell hb; have hz := hb.size; simp at hz; have z0 : w.heap.size < w1.heap.size := (by omega); have z1 : w.heap.size + 1 < w1.heap.size := (by omega)))
    exact bodyPost_ret (v := .agg #[.int .u64 _, .int .u64 _]) (by simp [results, Tryd.results56, go_sem, *]) rfl ⟨rfl, by repeat (first | exact Below.refl _ _ | apply ba | (refine bs ?_ (by simp)) | (refine bt ?_ (by assumption)))⟩

theorem signed_no (x : Int) (w : World) :
    Calls Tryd.prog 40 #[wv x, .bool false] w fun e w' => e = .returned (wv x) ∧ Below w.heap.size w w' := by
  unfold wv
  go_enter Tryd.func40, Tryd.ntmps40
  go_wp2
  exact bodyPost_ret (v := .agg #[.int .u64 _, .int .u64 _]) (by simp [results, Tryd.results40, go_sem, *]) rfl ⟨rfl, by repeat (first | exact Below.refl _ _ | apply ba | (refine bs ?_ (by simp)) | (refine bt ?_ (by assumption)))⟩
theorem signed_yes (x : Int) (w : World) :
    Calls Tryd.prog 40 #[wv x, .bool true] w fun e w' => e = .returned (wv (-x)) ∧ Below w.heap.size w w' := by
  rw [show -x = 0 - x by omega]
  have hM := fun w => minus_any 0 x w
  rw [show wv 0 = .agg #[.int .u64 0, .int .u64 0] from rfl] at hM
  unfold wv at hM ⊢
  have HM := Lib.hid hM
  clear hM
  go_enter Tryd.func40, Tryd.ntmps40
  go_wp2_with (first | (go_at_call 45; refine (HM.out _).mono ?_; rintro e w2 ⟨rfl, hb⟩; obtain ⟨hc2, hf2⟩ := bcell hb; have hz := hb.size; simp at hz; have z0 : w.heap.size < w2.heap.size := (by omega); have z1 : w.heap.size + 1 < w2.heap.size := (by omega)))
  exact bodyPost_ret (v := .agg #[.int .u64 _, .int .u64 _]) (by simp [results, Tryd.results40, go_sem, *]) rfl ⟨rfl, by repeat (first | exact Below.refl _ _ | apply ba | (refine bs ?_ (by simp)) | (refine bt ?_ (by assumption)))⟩
theorem signed_any (x : Int) (b : Bool) (w : World) :
    Calls Tryd.prog 40 #[wv x, .bool b] w fun e w' => e = .returned (wv (if b = true then -x else x)) ∧ Below w.heap.size w w' := by
  cases b
  · exact signed_no x w
  · exact signed_yes x w

theorem compare_lt (x y : Int) (h : InW (x - y)) (hl : x < y) (w : World) :
    Calls Tryd.prog 54 #[wv x, wv y] w fun e w' => e = .returned (.int .i64 (-1)) ∧ Below w.heap.size w w' := by
  have hN := fun w => negative_any (x - y) h w
  have hb : decide (x - y < 0) = true := by simp; omega
  rw [hb] at hN
  have hM := fun w => minus_any x y w
  clear hl hb
  unfold wv at hN hM ⊢
  have HN := Lib.hid hN
  have HM := Lib.hid hM
  clear hN hM
  go_enter Tryd.func54, Tryd.ntmps54
  go_wp2_with (first | (go_at_call 73; refine (HN.out _).mono ?_; rintro e w1 ⟨rfl, hb⟩) | (go_at_call 45; refine (HM.out _).mono ?_; rintro e w2 ⟨rfl, hb2⟩))
  go_ret
  exact ⟨rfl, by repeat (first | exact Below.refl _ _ | apply ba | (refine bs ?_ (by simp)) | (refine bt ?_ (by assumption)))⟩
theorem compare_eq (x : Int) (w : World) :
    Calls Tryd.prog 54 #[wv x, wv x] w fun e w' => e = .returned (.int .i64 0) ∧ Below w.heap.size w w' := by
  have hN := fun w => negative_any (x - x) (by unfold InW; omega) w
  have hb : decide (x - x < 0) = false := by simp
  rw [hb] at hN
  have hM := fun w => minus_any x x w
  rw [show x - x = 0 by omega] at hM hN
  rw [show wv 0 = .agg #[.int .u64 0, .int .u64 0] from rfl] at hM hN
  clear hb
  unfold wv at hM ⊢
  have HN := Lib.hid hN
  have HM := Lib.hid hM
  clear hN hM
  go_enter Tryd.func54, Tryd.ntmps54
  go_wp2_with (first | (go_at_call 73; refine (HN.out _).mono ?_; rintro e w1 ⟨rfl, hb⟩; obtain ⟨hc, hf⟩ := bcell hb) | (go_at_call 45; refine (HM.out _).mono ?_; rintro e w2 ⟨rfl, hb2⟩))
  go_ret
  exact ⟨rfl, by repeat (first | exact Below.refl _ _ | apply ba | (refine bs ?_ (by simp)) | (refine bt ?_ (by assumption)))⟩
theorem compare_gt (x y : Int) (h : InW (x - y)) (hl : y < x) (w : World) :
    Calls Tryd.prog 54 #[wv x, wv y] w fun e w' => e = .returned (.int .i64 1) ∧ Below w.heap.size w w' := by
  have hN := fun w => negative_any (x - y) h w
  have hb : decide (x - y < 0) = false := by simp; omega
  rw [hb] at hN
  have hM := fun w => minus_any x y w
  have hz : (hi (x - y) == 0 && lo (x - y) == 0) = false := by
    have := zero_iff (x - y) h.1 h.2
    simp; omega
  clear hl hb
  unfold wv at hN hM ⊢
  have HN := Lib.hid hN
  have HM := Lib.hid hM
  clear hN hM
  go_enter Tryd.func54, Tryd.ntmps54
  go_wp2_with (first | (go_at_call 73; refine (HN.out _).mono ?_; rintro e w1 ⟨rfl, hb⟩; obtain ⟨hc, hf⟩ := bcell hb) | (go_at_call 45; refine (HM.out _).mono ?_; rintro e w2 ⟨rfl, hb2⟩))
  all_goals first | (exfalso; simp_all; done) | skip
  all_goals go_ret
  all_goals exact ⟨rfl, by repeat (first | exact Below.refl _ _ | apply ba | (refine bs ?_ (by simp)) | (refine bt ?_ (by assumption)))⟩

theorem cmp_lemma (x y : Int) (h : InW (x - y)) (w : World) :
    Calls Tryd.prog 54 #[wv x, wv y] w fun e w' => e = .returned (.int .i64 (if x < y then -1 else if x = y then 0 else 1)) ∧ Below w.heap.size w w' := by
  by_cases h1 : x < y
  · rw [if_pos h1]; exact compare_lt x y h h1 w
  · rw [if_neg h1]
    by_cases h2 : x = y
    · subst h2; rw [if_pos rfl]; exact compare_eq x w
    · rw [if_neg h2]; exact compare_gt x y h (by omega) w

theorem ten_le (k : Nat) (h : k ≤ 19) : (10 : Int) ^ k ≤ 10000000000000000000 := by
  have a : (10 : Nat) ^ k ≤ 10 ^ 19 := Nat.pow_le_pow_right (by decide) h
  have e : (((10 : Nat) ^ k : Nat) : Int) = 10 ^ k := by simp
  rw [← e]; exact Int.ofNat_le.2 a
theorem ten_pos (k : Nat) : (0 : Int) < 10 ^ k := Int.pow_pos (by decide)
set_option maxHeartbeats 400000 in
theorem power_any (n : Nat) (hn : n ≤ 19) (w : World) :
    Calls Tryd.prog 48 #[.int .i64 n] w fun e w' => e = .returned (wv (10 ^ n)) ∧ Below w.heap.size w w' := by
  have hw : wv (10 ^ n) = .agg #[.int .u64 0, .int .u64 (10 ^ n)] := by
    have a := ten_le n hn; have b := ten_pos n
    obtain ⟨c, d⟩ := hi_of (10 ^ n) (by omega) (by omega)
    unfold wv; rw [c, d]
  rw [hw]
  clear hw
  go_enter Tryd.func48, Tryd.ntmps48
  go_wp2
  go_loop [3, 5] (fun p i => ∃ k : Nat, k ≤ n ∧ i = .int .i64 k ∧ p = .int .u64 (10 ^ k)) (fun _ i => n - (intOf i).toNat)
  case atStart => exact ⟨0, Nat.zero_le _, rfl, rfl⟩
  case round =>
    obtain ⟨k, hk, rfl, rfl⟩ := hrel
    by_cases hlt : k < n
    · have a := ten_le (k + 1) (by omega)
      have b := ten_pos k
      have e := Lib.hid (Int.pow_succ (10 : Int) k)
      rw [e.out] at a
      generalize hp : (10 : Int) ^ k = P at *
      have HP := Lib.hid hp
      clear hp
      go_wp2
      go_round
      case rel => exact ⟨k + 1, by omega, by go_num, by rw [e.out]⟩
      case measure => simp [intOf]; omega
    · obtain rfl : k = n := by omega
      go_wp2
      exact bodyPost_ret (v := .agg #[.int .u64 0, .int .u64 (10 ^ k)]) (by simp [results, Tryd.results48, go_sem, *]) rfl ⟨rfl, by repeat (first | exact Below.refl _ _ | apply ba | (refine bs ?_ (by simp)) | (refine bt ?_ (by assumption)))⟩
end Go.Proofs
