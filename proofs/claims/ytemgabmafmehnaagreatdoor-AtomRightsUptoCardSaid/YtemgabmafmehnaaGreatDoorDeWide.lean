/- Numbers of 128 bits. No condition beyond what the theorems state. -/
import Derived.Test.YtemgabmafmehnaaGreatDoorShelf
import Derived.Test.YtemgabmafmehnaaGreatDoorDeMath
import Derived.WalkKit
import Derived.WalkSpells
import Derived.Lib.Hide
import Derived.Below
import Derived.BigQuiet
import Derived.Deep.QuietTactic
import Derived.Deep.Draws
import Derived.Deep.DeepCutAuto
import Derived.Laws.Bits64b
namespace Go.Proofs
open Go.Shelf Go.RowKit Go.Proofs.Wide

theorem add64 (x y c : Int) (hx : 0 ≤ x) (hy : 0 ≤ y) (hc0 : 0 ≤ c) (hc : c ≤ 1) (w : World) : (callFunc 164 #[.int .u64 x, .int .u64 y, .int .u64 c]).run Tryz.prog w =
    .ok (.value (.tuple #[.int .u64 ((x + y + c) % 18446744073709551616), .int .u64 ((x + y + c) / 18446744073709551616)])) w := by
  obtain ⟨x, rfl⟩ := Int.eq_ofNat_of_zero_le hx
  obtain ⟨y, rfl⟩ := Int.eq_ofNat_of_zero_le hy
  obtain ⟨c, rfl⟩ := Int.eq_ofNat_of_zero_le hc0
  refine (Any7.bits_Add64 Tryz.lays25 x y c (by omega) w).trans ?_
  congr 5 <;> omega
theorem sub64 (x y b : Int) (hx : 0 ≤ x) (hy : 0 ≤ y) (hy' : y < 18446744073709551616) (hb0 : 0 ≤ b) (hb : b ≤ 1) (w : World) : (callFunc 86 #[.int .u64 x, .int .u64 y, .int .u64 b]).run Tryz.prog w =
    .ok (.value (.tuple #[.int .u64 ((x - y - b) % 18446744073709551616), .int .u64 (bor x (y + b))])) w := by
  obtain ⟨x, rfl⟩ := Int.eq_ofNat_of_zero_le hx
  obtain ⟨y, rfl⟩ := Int.eq_ofNat_of_zero_le hy
  obtain ⟨b, rfl⟩ := Int.eq_ofNat_of_zero_le hb0
  have e1 : (((x + 18446744073709551616 - y - b) % 18446744073709551616 : Nat) : Int) = ((x : Int) - y - b) % 18446744073709551616 := by omega
  have e2 : ((if x < y + b then 1 else 0 : Nat) : Int) = bor (x : Int) (y + b) := by unfold bor; split <;> split <;> omega
  rw [← e1, ← e2]
  exact Any7.bits_Sub64 Tryz.lays26 x y b (by omega) w
theorem add64_0 (x y : Int) (hx : 0 ≤ x) (hy : 0 ≤ y) (w : World) : (callFunc 164 #[.int .u64 x, .int .u64 y, .int .u64 0]).run Tryz.prog w =
    .ok (.value (.tuple #[.int .u64 ((x + y) % 18446744073709551616), .int .u64 ((x + y) / 18446744073709551616)])) w := by
  simpa using add64 x y 0 hx hy (Int.le_refl 0) (by decide) w
theorem sub64_0 (x y : Int) (hx : 0 ≤ x) (hy : 0 ≤ y) (hy' : y < 18446744073709551616) (w : World) : (callFunc 86 #[.int .u64 x, .int .u64 y, .int .u64 0]).run Tryz.prog w =
    .ok (.value (.tuple #[.int .u64 ((x - y) % 18446744073709551616), .int .u64 (bor x y)])) w := by
  simpa using sub64 x y 0 hx hy hy' (Int.le_refl 0) (by decide) w
theorem mul64 (x y : Int) (hx : 0 ≤ x) (hx' : x < 18446744073709551616) (hy : 0 ≤ y) (hy' : y < 18446744073709551616) (w : World) :
    Calls Tryz.prog 111 #[.int .u64 x, .int .u64 y] w fun e w' => e = .returned (.tuple #[.int .u64 (x * y / 18446744073709551616), .int .u64 (x * y % 18446744073709551616)]) ∧ w = w' := by
  obtain ⟨x, rfl⟩ := Int.eq_ofNat_of_zero_le hx
  obtain ⟨y, rfl⟩ := Int.eq_ofNat_of_zero_le hy
  exact (Tryz.bits_Mul64 x y (by omega) (by omega) w).mono fun e w' ⟨h1, h2⟩ => ⟨by rw [h1]; simp, h2.symm⟩

/-- A whole number of 128 bits, as the code holds it. -/
def wv (x : Int) : Value := .agg #[.int .u64 (hi x), .int .u64 (lo x)]
theorem bor_bd (x y : Int) : 0 ≤ bor x y ∧ bor x y ≤ 1 := by unfold bor; split <;> decide

theorem wideOf_any (n : Int) (h0 : -9223372036854775808 ≤ n) (h1 : n ≤ 9223372036854775807) (w : World) :
    Calls Tryz.prog 81 #[.int .i64 n] w fun e w' => e = .returned (wv n) ∧ Below w.heap.size w w' := by
  have e1 : IntKind.u64.wrap (n / 9223372036854775808) = hi n := by rw [IntKind.wrap_u64]; unfold hi; omega
  have e2 : IntKind.u64.wrap n = lo n := by rw [IntKind.wrap_u64]; unfold lo; omega
  go_enter Tryz.func81, Tryz.ntmps81
  go_wp2
  exact bodyPost_ret (v := wv n) (by simp [results, Tryz.results81, go_sem, wv]) rfl ⟨rfl, (Below.refl _ _).alloc (Nat.le_refl _) _⟩

theorem plus_any (x y : Int) (w : World) :
    Calls Tryz.prog 152 #[wv x, wv y] w fun e w' => e = .returned (wv (x + y)) ∧ Below w.heap.size w w' := by
  unfold wv
  rw [← hi_add x y, ← lo_add x y]
  have a := lo_bd x; have b := hi_bd x; have c := lo_bd y; have d := hi_bd y
  generalize hi x = ah at *; generalize lo x = al at *; generalize hi y = bh at *; generalize lo y = bl at *
  obtain ⟨a1, a2⟩ := a; obtain ⟨b1, b2⟩ := b; obtain ⟨c1, c2⟩ := c; obtain ⟨d1, d2⟩ := d
  have k0 : 0 ≤ (al + bl) / 18446744073709551616 := by omega
  have k1 : (al + bl) / 18446744073709551616 ≤ 1 := by omega
  go_enter Tryz.func152, Tryz.ntmps152
  go_wp2_with (first | simp only [add64_0 al bl a1 c1] | simp only [add64 ah bh _ b1 d1 k0 k1])
  exact bodyPost_ret (v := .agg #[.int .u64 _, .int .u64 _]) (by simp [results, Tryz.results152, go_sem]) rfl ⟨rfl, (((Below.refl _ _).alloc (Nat.le_refl _) _).alloc (by simp) _).alloc (by simp; omega) _⟩

theorem minus_any (x y : Int) (w : World) :
    Calls Tryz.prog 55 #[wv x, wv y] w fun e w' => e = .returned (wv (x - y)) ∧ Below w.heap.size w w' := by
  unfold wv
  rw [← hi_sub x y, ← lo_sub x y]
  have a := lo_bd x; have b := hi_bd x; have c := lo_bd y; have d := hi_bd y
  generalize hi x = ah at *; generalize lo x = al at *; generalize hi y = bh at *; generalize lo y = bl at *
  obtain ⟨a1, a2⟩ := a; obtain ⟨b1, b2⟩ := b; obtain ⟨c1, c2⟩ := c; obtain ⟨d1, d2⟩ := d
  obtain ⟨k0, k1⟩ := bor_bd al bl
  go_enter Tryz.func55, Tryz.ntmps55
  go_wp2_with (first | simp only [sub64_0 al bl a1 c1 c2] | simp only [sub64 ah bh _ b1 d1 d2 k0 k1])
  exact bodyPost_ret (v := .agg #[.int .u64 _, .int .u64 _]) (by simp [results, Tryz.results55, go_sem]) rfl ⟨rfl, (((Below.refl _ _).alloc (Nat.le_refl _) _).alloc (by simp) _).alloc (by simp; omega) _⟩

theorem hi_mul' (x y : Int) : IntKind.u64.wrap (IntKind.u64.wrap (lo x * lo y / 18446744073709551616 + IntKind.u64.wrap (hi x * lo y)) + IntKind.u64.wrap (lo x * hi y)) = hi (x * y) := by
  rw [← hi_mul x y]
  simp only [IntKind.wrap_u64]
  omega
theorem times_any (x y : Int) (w : World) :
    Calls Tryz.prog 82 #[wv x, wv y] w fun e w' => e = .returned (wv (x * y)) ∧ Below w.heap.size w w' := by
  have H := Lib.hid (hi_mul' x y)
  have H' := Lib.hid (lo_mul x y)
  unfold wv
  have a := lo_bd x; have b := hi_bd x; have c := lo_bd y; have d := hi_bd y
  generalize hi x = ah at *; generalize lo x = al at *; generalize hi y = bh at *; generalize lo y = bl at *
  obtain ⟨a1, a2⟩ := a; obtain ⟨b1, b2⟩ := b; obtain ⟨c1, c2⟩ := c; obtain ⟨d1, d2⟩ := d
  go_enter Tryz.func82, Tryz.ntmps82
  go_wp2_with (go_at_call 111; refine (mul64 al bl a1 a2 c1 c2 _).mono ?_; rintro e w' ⟨rfl, rfl⟩)
  refine bodyPost_ret (v := .agg #[.int .u64 _, .int .u64 _]) (by simp [results, Tryz.results82, go_sem]; exact ⟨rfl, rfl⟩) rfl ⟨?_, (((Below.refl _ _).alloc (Nat.le_refl _) _).alloc (by simp) _).alloc (by simp; omega) _⟩
  rw [← H.out, ← H'.out]

/-- Within the bounds of 128 bits. -/
def InW (x : Int) : Prop := -170141183460469231731687303715884105728 ≤ x ∧ x < 170141183460469231731687303715884105728

theorem negative_any (x : Int) (hx : InW x) (w : World) :
    Calls Tryz.prog 87 #[wv x] w fun e w' => e = .returned (.bool (decide (x < 0))) ∧ Below w.heap.size w w' := by
  have e1 := neg_iff x hx.1 hx.2
  have b := hi_bd x
  unfold wv
  generalize hi x = ah at *; generalize lo x = al at *
  obtain ⟨b1, b2⟩ := b
  by_cases h : x < 0
  · rw [if_pos h] at e1
    simp only [h, decide_true]
    go_enter Tryz.func87, Tryz.ntmps87
    go_wp2
    go_ret
    exact ⟨by simp, (Below.refl _ _).alloc (Nat.le_refl _) _⟩
  · rw [if_neg h] at e1
    simp only [h, decide_false]
    go_enter Tryz.func87, Tryz.ntmps87
    go_wp2
    go_ret
    exact ⟨by simp, (Below.refl _ _).alloc (Nat.le_refl _) _⟩

/-- Behind a call that only makes memory all that was there reads as it did. -/
theorem bcell {W w1 : World} (hb : Below W.heap.size W w1) : (∀ b o, b < W.heap.size → w1.cell? ⟨b, o, none⟩ = W.cell? ⟨b, o, none⟩) ∧ (∀ b o, b < W.heap.size → w1.frozen? ⟨b, o, none⟩ = W.frozen? ⟨b, o, none⟩) :=
  ⟨fun b o h => hb.cell (p := ⟨b, o, none⟩) h, fun b o h => hb.frozen (p := ⟨b, o, none⟩) h⟩

theorem ba {w w1 : World} {o : Obj} (h : Below w.heap.size w w1) : Below w.heap.size w (w1.alloc o) := h.alloc h.size _
theorem bs {w w1 : World} {p : Addr} {v : Value} (h : Below w.heap.size w w1) (hp : w.heap.size ≤ p.block) : Below w.heap.size w (w1.setCell p v) := h.setCell hp _
theorem bt {w W w1 : World} (h : Below w.heap.size w W) (hb : Below W.heap.size W w1) : Below w.heap.size w w1 := h.trans (hb.mono h.size)

theorem size_any (x : Int) (hx : InW x) (w : World) :
    Calls Tryz.prog 85 #[wv x] w fun e w' => e = .returned (wv (if x < 0 then -x else x)) ∧ Below w.heap.size w w' := by
  by_cases h : x < 0
  · rw [if_pos h, show -x = 0 - x by omega]
    have hb : decide (x < 0) = true := by simpa using h
    have hM := fun w => minus_any 0 x w
    have hN := fun w => negative_any x hx w
    rw [hb] at hN
    rw [show wv 0 = .agg #[.int .u64 0, .int .u64 0] from rfl] at hM
    clear h hb
    unfold wv at hN hM ⊢
    have HN := Lib.hid hN
    have HM := Lib.hid hM
    clear hN hM
    go_enter Tryz.func85, Tryz.ntmps85
    go_wp2_with (first | (go_at_call 87; go_must (refine (HN.out _).mono ?_; rintro e w1 ⟨rfl, hb⟩; obtain ⟨hc, hf⟩ := bcell hb; have hz := hb.size; simp at hz; have z0 : w.heap.size < w1.heap.size := (by omega); have z1 : w.heap.size + 1 < w1.heap.size := (by omega))) | (go_at_call 55; refine (HM.out _).mono ?_; rintro e w2 ⟨rfl, hb2⟩; obtain ⟨hc2, hf2⟩ := bcell hb2))
    exact bodyPost_ret (v := .agg #[.int .u64 _, .int .u64 _]) (by simp [results, Tryz.results85, go_sem, *]) rfl ⟨rfl, by repeat (first | exact Below.refl _ _ | apply ba | (refine bs ?_ (by simp)) | (refine bt ?_ (by assumption)))⟩
  · rw [if_neg h]
    have hb : decide (x < 0) = false := by simpa using h
    have hN := fun w => negative_any x hx w
    rw [hb] at hN
    clear h hb
    unfold wv at hN ⊢
    have HN := Lib.hid hN
    clear hN
    go_enter Tryz.func85, Tryz.ntmps85
    go_wp2_with (first | (go_at_call 87; refine (HN.out _).mono ?_; rintro e w1 ⟨rfl, hb⟩; obtain ⟨hc, hf⟩ := bcell hb; have hz := hb.size; simp at hz; have z0 : w.heap.size < w1.heap.size := (by omega); have z1 : w.heap.size + 1 < w1.heap.size := (by omega)))
    exact bodyPost_ret (v := .agg #[.int .u64 _, .int .u64 _]) (by simp [results, Tryz.results85, go_sem, *]) rfl ⟨rfl, by repeat (first | exact Below.refl _ _ | apply ba | (refine bs ?_ (by simp)) | (refine bt ?_ (by assumption)))⟩

theorem signed_no (x : Int) (w : World) :
    Calls Tryz.prog 113 #[wv x, .bool false] w fun e w' => e = .returned (wv x) ∧ Below w.heap.size w w' := by
  unfold wv
  go_enter Tryz.func113, Tryz.ntmps113
  go_wp2
  exact bodyPost_ret (v := .agg #[.int .u64 _, .int .u64 _]) (by simp [results, Tryz.results113, go_sem, *]) rfl ⟨rfl, by repeat (first | exact Below.refl _ _ | apply ba | (refine bs ?_ (by simp)) | (refine bt ?_ (by assumption)))⟩
theorem signed_yes (x : Int) (w : World) :
    Calls Tryz.prog 113 #[wv x, .bool true] w fun e w' => e = .returned (wv (-x)) ∧ Below w.heap.size w w' := by
  rw [show -x = 0 - x by omega]
  have hM := fun w => minus_any 0 x w
  rw [show wv 0 = .agg #[.int .u64 0, .int .u64 0] from rfl] at hM
  unfold wv at hM ⊢
  have HM := Lib.hid hM
  clear hM
  go_enter Tryz.func113, Tryz.ntmps113
  go_wp2_with (first | (go_at_call 55; refine (HM.out _).mono ?_; rintro e w2 ⟨rfl, hb⟩; obtain ⟨hc2, hf2⟩ := bcell hb; have hz := hb.size; simp at hz; have z0 : w.heap.size < w2.heap.size := (by omega); have z1 : w.heap.size + 1 < w2.heap.size := (by omega)))
  exact bodyPost_ret (v := .agg #[.int .u64 _, .int .u64 _]) (by simp [results, Tryz.results113, go_sem, *]) rfl ⟨rfl, by repeat (first | exact Below.refl _ _ | apply ba | (refine bs ?_ (by simp)) | (refine bt ?_ (by assumption)))⟩
theorem signed_any (x : Int) (b : Bool) (w : World) :
    Calls Tryz.prog 113 #[wv x, .bool b] w fun e w' => e = .returned (wv (if b = true then -x else x)) ∧ Below w.heap.size w w' := by
  cases b
  · exact signed_no x w
  · exact signed_yes x w

theorem compare_lt (x y : Int) (h : InW (x - y)) (hl : x < y) (w : World) :
    Calls Tryz.prog 56 #[wv x, wv y] w fun e w' => e = .returned (.int .i64 (-1)) ∧ Below w.heap.size w w' := by
  have hN := fun w => negative_any (x - y) h w
  have hb : decide (x - y < 0) = true := by simp; omega
  rw [hb] at hN
  have hM := fun w => minus_any x y w
  clear hl hb
  unfold wv at hN hM ⊢
  have HN := Lib.hid hN
  have HM := Lib.hid hM
  clear hN hM
  go_enter Tryz.func56, Tryz.ntmps56
  go_wp2_with (first | (go_at_call 87; refine (HN.out _).mono ?_; rintro e w1 ⟨rfl, hb⟩) | (go_at_call 55; refine (HM.out _).mono ?_; rintro e w2 ⟨rfl, hb2⟩))
  go_ret
  exact ⟨rfl, by repeat (first | exact Below.refl _ _ | apply ba | (refine bs ?_ (by simp)) | (refine bt ?_ (by assumption)))⟩
theorem compare_eq (x : Int) (w : World) :
    Calls Tryz.prog 56 #[wv x, wv x] w fun e w' => e = .returned (.int .i64 0) ∧ Below w.heap.size w w' := by
  have hN := fun w => negative_any (x - x) (by unfold InW; omega) w
  have hb : decide (x - x < 0) = false := by simp
  rw [hb] at hN
  have hM := fun w => minus_any x x w
  rw [show x - x = 0 by omega] at hM hN
  rw [show wv 0 = .agg #[.int .u64 0, .int .u64 0] from rfl] at hM hN
  clear hb
  unfold wv at hM ⊢
  have HN := Lib.hid hN
  have HM := Lib.hid hM
  clear hN hM
  go_enter Tryz.func56, Tryz.ntmps56
  go_wp2_with (first | (go_at_call 87; refine (HN.out _).mono ?_; rintro e w1 ⟨rfl, hb⟩; obtain ⟨hc, hf⟩ := bcell hb) | (go_at_call 55; refine (HM.out _).mono ?_; rintro e w2 ⟨rfl, hb2⟩))
  go_ret
  exact ⟨rfl, by repeat (first | exact Below.refl _ _ | apply ba | (refine bs ?_ (by simp)) | (refine bt ?_ (by assumption)))⟩
theorem compare_gt (x y : Int) (h : InW (x - y)) (hl : y < x) (w : World) :
    Calls Tryz.prog 56 #[wv x, wv y] w fun e w' => e = .returned (.int .i64 1) ∧ Below w.heap.size w w' := by
  have hN := fun w => negative_any (x - y) h w
  have hb : decide (x - y < 0) = false := by simp; omega
  rw [hb] at hN
  have hM := fun w => minus_any x y w
  have hz : (hi (x - y) == 0 && lo (x - y) == 0) = false := by
    have := zero_iff (x - y) h.1 h.2
    simp; omega
  clear hl hb
  unfold wv at hN hM ⊢
  have HN := Lib.hid hN
  have HM := Lib.hid hM
  clear hN hM
  go_enter Tryz.func56, Tryz.ntmps56
  go_wp2_with (first | (go_at_call 87; refine (HN.out _).mono ?_; rintro e w1 ⟨rfl, hb⟩; obtain ⟨hc, hf⟩ := bcell hb) | (go_at_call 55; refine (HM.out _).mono ?_; rintro e w2 ⟨rfl, hb2⟩))
  all_goals first | (exfalso; simp_all; done) | skip
  all_goals go_ret
  all_goals exact ⟨rfl, by repeat (first | exact Below.refl _ _ | apply ba | (refine bs ?_ (by simp)) | (refine bt ?_ (by assumption)))⟩

theorem cmp_lemma (x y : Int) (h : InW (x - y)) (w : World) :
    Calls Tryz.prog 56 #[wv x, wv y] w fun e w' => e = .returned (.int .i64 (if x < y then -1 else if x = y then 0 else 1)) ∧ Below w.heap.size w w' := by
  by_cases h1 : x < y
  · rw [if_pos h1]; exact compare_lt x y h h1 w
  · rw [if_neg h1]
    by_cases h2 : x = y
    · subst h2; rw [if_pos rfl]; exact compare_eq x w
    · rw [if_neg h2]; exact compare_gt x y h (by omega) w

theorem ten_le (k : Nat) (h : k ≤ 19) : (10 : Int) ^ k ≤ 10000000000000000000 := by
  have a : (10 : Nat) ^ k ≤ 10 ^ 19 := Nat.pow_le_pow_right (by decide) h
  have e : (((10 : Nat) ^ k : Nat) : Int) = 10 ^ k := by simp
  rw [← e]; exact Int.ofNat_le.2 a
theorem ten_pos (k : Nat) : (0 : Int) < 10 ^ k := Int.pow_pos (by decide)
set_option maxHeartbeats 400000 in
theorem power_any (n : Nat) (hn : n ≤ 19) (w : World) :
    Calls Tryz.prog 83 #[.int .i64 n] w fun e w' => e = .returned (wv (10 ^ n)) ∧ Below w.heap.size w w' := by
  have hw : wv (10 ^ n) = .agg #[.int .u64 0, .int .u64 (10 ^ n)] := by
    have a := ten_le n hn; have b := ten_pos n
    obtain ⟨c, d⟩ := hi_of (10 ^ n) (by omega) (by omega)
    unfold wv; rw [c, d]
  rw [hw]
  clear hw
  go_enter Tryz.func83, Tryz.ntmps83
  go_wp2
  go_loop [3, 5] (fun p i => ∃ k : Nat, k ≤ n ∧ i = .int .i64 k ∧ p = .int .u64 (10 ^ k)) (fun _ i => n - (intOf i).toNat)
  case atStart => exact ⟨0, Nat.zero_le _, rfl, rfl⟩
  case round =>
    obtain ⟨k, hk, rfl, rfl⟩ := hrel
    by_cases hlt : k < n
    · have a := ten_le (k + 1) (by omega)
      have b := ten_pos k
      have e := Lib.hid (Int.pow_succ (10 : Int) k)
      rw [e.out] at a
      generalize hp : (10 : Int) ^ k = P at *
      have HP := Lib.hid hp
      clear hp
      go_wp2
      go_round
      case rel => exact ⟨k + 1, by omega, by go_num, by rw [e.out]⟩
      case measure => simp [intOf]; omega
    · obtain rfl : k = n := by omega
      go_wp2
      exact bodyPost_ret (v := .agg #[.int .u64 0, .int .u64 (10 ^ k)]) (by simp [results, Tryz.results83, go_sem, *]) rfl ⟨rfl, by repeat (first | exact Below.refl _ _ | apply ba | (refine bs ?_ (by simp)) | (refine bt ?_ (by assumption)))⟩
end Go.Proofs
namespace Go.Proofs
open Go.Shelf Go.RowKit Go.Proofs.Wide

theorem bitLen_bounds (y : Nat) (h0 : 0 < y) (h1 : y < 2 ^ 64) : Lib.bitLen y ≤ 64 ∧ 1 ≤ Lib.bitLen y ∧ 2 ^ (Lib.bitLen y - 1) ≤ y ∧ y < 2 ^ Lib.bitLen y := by
  have a := Nat.log2_self_le (n := y) (by omega)
  have b := Nat.lt_log2_self (n := y)
  have c := Lib.bitLen_shift y.log2 y a h1
  have d : y / 2 ^ y.log2 = 1 := by
    refine Nat.div_eq_of_lt_le ?_ ?_
    · simpa using a
    · rw [Nat.pow_succ] at b; omega
  rw [d, show Lib.bitLen 1 = 1 by decide +kernel] at c
  rw [c]
  have e : y.log2 < 64 := (Nat.log2_lt (by omega)).2 h1
  exact ⟨by omega, by omega, by simpa using a, b⟩

theorem lz (y : Int) (h0 : 0 < y) (h1 : y < 18446744073709551616) (w : World) :
    Calls Tryz.prog 156 #[.int .u64 y] w fun e w' => e = .returned (.int .i64 (64 - (Lib.bitLen y.toNat : Int))) ∧ w = w' :=
  (Tryz.bits_LeadingZeros64 y w (by omega) (by omega)).mono fun e w' ⟨a, b⟩ => ⟨a, b.symm⟩

/-- The first way: nothing above the word. -/
theorem div64_low (l y : Int) (hl : 0 ≤ l) (hl' : l < 18446744073709551616) (hy : 0 < y) (hy' : y < 18446744073709551616) (w : World) :
    Calls Tryz.prog 134 #[.int .u64 0, .int .u64 l, .int .u64 y] w fun e w' => e = .returned (.tuple #[.int .u64 (l / y), .int .u64 (l % y)]) ∧ ∃ n, w' = w.drewN n := by
  have hy0 : ¬ y = 0 := by omega
  have hy1 : ¬ y ≤ 0 := by omega
  go_enter Tryz.func134, Tryz.ntmps134
  go_wp2
  go_quiet (fail)
  go_wp2
  go_ret2
  exact ⟨rfl, _, rfl⟩
set_option maxHeartbeats 4000000 in
set_option maxRecDepth 100000 in
theorem div64_core (h l y : Int) (s : Nat) (hh : 0 < h) (hhy : h < y) (_hl : 0 ≤ l) (_hl' : l < 18446744073709551616) (hy' : y < 18446744073709551616) (w : World)
    (hs : s ≤ 63) (hsb : (Lib.bitLen y.toNat : Int) = 64 - s) (Y y1 y0 u v u1 u0 Q1 R1 Q0 R0 RS : Int) (L1 : Low y1 y0 u u1) (L0 : Low y1 y0 R1 u0)
    (e1 : IntKind.u64.wrap (y * 2 ^ s) = Y) (e2 : Y / 4294967296 = y1) (e3 : bits BinOp.and IntKind.u64 Y 4294967295 = y0)
    (e4 : bits BinOp.or IntKind.u64 (IntKind.u64.wrap (h * 2 ^ s)) (l / 2 ^ (64 - s)) = u) (e5 : IntKind.u64.wrap (l * 2 ^ s) = v) (e6 : v / 4294967296 = u1) (e7 : bits BinOp.and IntKind.u64 v 4294967295 = u0)
    (q1 : (u * 4294967296 + u1) / (y1 * 4294967296 + y0) = Q1) (q0 : (R1 * 4294967296 + u0) / (y1 * 4294967296 + y0) = Q0)
    (r1 : IntKind.u64.wrap (IntKind.u64.wrap (IntKind.u64.wrap (u * 4294967296) + u1) - IntKind.u64.wrap (Q1 * Y)) = R1)
    (r0 : IntKind.u64.wrap (IntKind.u64.wrap (IntKind.u64.wrap (R1 * 4294967296) + u0) - IntKind.u64.wrap (Q0 * Y)) = R0) (rs : R0 / 2 ^ s = RS)
    (z1 : 0 ≤ Q1) (z2 : Q1 < 4294967296) (z3 : 0 ≤ Q0) (z4 : Q0 < 4294967296) :
    Calls Tryz.prog 134 #[.int .u64 h, .int .u64 l, .int .u64 y] w fun e w' => e = .returned (.tuple #[.int .u64 (Q1 * 4294967296 + Q0), .int .u64 RS]) ∧ w = w' := by
  have hy0 : ¬ y = 0 := by omega
  have hy1 : ¬ y ≤ h := by omega
  have hh0 : ¬ h = 0 := by omega
  have hlz := fun w => lz y (by omega) hy' w
  rw [show (64 - (Lib.bitLen y.toNat : Int)) = s by omega] at hlz
  have HL := Lib.hid hlz
  have ya := L1.a; have yb := L1.b; have yc := L1.c; have yd := L1.d
  have ue := L1.e; have ug := L1.g; have uh := L1.h
  have re := L0.e; have rg := L0.g; have rh := L0.h
  have G1 := guess_first L1
  have G0 := guess_first L0
  have y1n : ¬ y1 = 0 := by omega
  have yp : 0 < y1 := by omega
  have uu : u < 18446744073709551616 := by have := L1.f; omega
  have ru : R1 < 18446744073709551616 := by have := L0.f; omega
  obtain ⟨qa, hqa⟩ : ∃ qa, u / y1 = qa := ⟨_, rfl⟩
  obtain ⟨qb, hqb⟩ : ∃ qb, R1 / y1 = qb := ⟨_, rfl⟩
  rw [hqa] at G1
  rw [hqb] at G0
  have B1 := guess_bounds L1 G1
  have B0 := guess_bounds L0 G0
  have era : IntKind.u64.wrap (u - IntKind.u64.wrap (qa * y1)) = u - qa * y1 := by
    have := G1.2.2.2; rw [IntKind.wrap_u64, IntKind.wrap_u64]; omega
  have erb : IntKind.u64.wrap (R1 - IntKind.u64.wrap (qb * y1)) = R1 - qb * y1 := by
    have := G0.2.2.2; rw [IntKind.wrap_u64, IntKind.wrap_u64]; omega
  obtain ⟨ra, hra⟩ : ∃ ra, u - qa * y1 = ra := ⟨_, rfl⟩
  obtain ⟨rb, hrb⟩ : ∃ rb, R1 - qb * y1 = rb := ⟨_, rfl⟩
  rw [hra] at G1 era B1
  rw [hrb] at G0 erb B0
  have E1 := Lib.hid r1; have E0 := Lib.hid r0; have ES := Lib.hid rs
  have EQ1 := Lib.hid q1; have EQ0 := Lib.hid q0
  have HQB := Lib.hid hqb; have HRB := Lib.hid erb
  clear hlz hsb r1 r0 rs q1 q0 hqb erb hra hrb B1 B0
  go_enter Tryz.func134, Tryz.ntmps134
  go_wp2_with (go_at_call 156; refine (HL.out _).mono ?_; rintro e w' ⟨rfl, rfl⟩)
  have X1 := Lib.hid e1; have X2 := Lib.hid e2; have X3 := Lib.hid e3; have X4 := Lib.hid e4; have X5 := Lib.hid e5; have X6 := Lib.hid e6; have X7 := Lib.hid e7; have X8 := Lib.hid hqa; have X9 := Lib.hid era
  clear e1 e2 e3 e4 e5 e6 e7 hqa era
  go_loop [15, 16] (fun q r => ∃ a b : Int, q = .int .u64 a ∧ r = .int .u64 b ∧ Guess y1 y0 u u1 a b) (fun q _ => (intOf q).toNat)
  case atStart => exact ⟨_, _, rfl, rfl, by first | exact G1 | (rw [X8.out]; exact G1)⟩
  case round =>
    obtain ⟨q, r, rfl, rfl, G⟩ := hrel
    obtain ⟨b1, b2, b3, b4, b5⟩ := guess_bounds L1 G
    have b6 : 0 ≤ r := G.2.2.2.1
    have b7 : r < 4294967296 := G.2.2.2.2
    have f1 : IntKind.u64.wrap (q * y0) = q * y0 := by rw [IntKind.wrap_u64]; omega
    have f2 : IntKind.u64.wrap (4294967296 * r) = 4294967296 * r := by rw [IntKind.wrap_u64]; omega
    have f3 : IntKind.u64.wrap (4294967296 * r + u1) = 4294967296 * r + u1 := by rw [IntKind.wrap_u64]; omega
    have hd := fun t => (guess_done (q := q) (r := r) L1 G t).trans EQ1.out
    have hn := fun t => guess_next (q := q) (r := r) L1 G t
    have hk := fun t t' => (guess_break (q := q) (r := r) L1 G t t').trans EQ1.out
    have ho := fun t => guess_over (q := q) (r := r) L1 G t
    rw [EQ1.out] at ho
    have HD := Lib.hid hd; have HN := Lib.hid hn; have HK := Lib.hid hk; have HO := Lib.hid ho
    have HG := Lib.hid G
    clear hd hn hk ho
    obtain ⟨p, hp⟩ : ∃ p, q * y0 = p := ⟨_, rfl⟩
    rw [hp] at b2 b3 HD HN HK HO
    have f0 : IntKind.u64.wrap (q * y0) = p := f1.trans hp
    clear hp f1 G
    by_cases t : 4294967296 ≤ q ∨ 4294967296 * r + u1 < p
    · have hN := HN.out t; have hK := HK.out t; have hO := HO.out t
      have HN' := Lib.hid hN; have HK' := Lib.hid hK
      clear hN hK HN HK HD HO
      have m1 : 0 ≤ q - 1 := by omega
      have m2 : 0 ≤ r + y1 := by omega
      have m4 : IntKind.u64.wrap (r + y1) = r + y1 := by rw [IntKind.wrap_u64]; omega
      by_cases t3 : 4294967296 ≤ r + y1
      · have m3 : IntKind.u64.wrap (q - 1) = Q1 := by have := HK'.out t3; have := HG.out.2.1; rw [IntKind.wrap_u64]; omega
        clear HN' HK' HG
        by_cases t1 : 4294967296 ≤ q
        · clear t
          have r1 := E1.out; have hqb := HQB.out; have erb := HRB.out
          go_wp2
          clear r1 hqb erb f0 f2 f3 b1 b2 b3 b4 b5 b6 b7
          go_loop [18, 16] (fun q r => ∃ a b : Int, q = .int .u64 a ∧ r = .int .u64 b ∧ Guess y1 y0 R1 u0 a b) (fun q _ => (intOf q).toNat)
          case atStart => exact ⟨_, _, rfl, rfl, by first | exact G0 | (rw [HQB.out]; exact G0)⟩
          case round =>
            obtain ⟨q, r, rfl, rfl, G⟩ := hrel
            obtain ⟨b1, b2, b3, b4, b5⟩ := guess_bounds L0 G
            have b6 : 0 ≤ r := G.2.2.2.1
            have b7 : r < 4294967296 := G.2.2.2.2
            have f1 : IntKind.u64.wrap (q * y0) = q * y0 := by rw [IntKind.wrap_u64]; omega
            have f2 : IntKind.u64.wrap (4294967296 * r) = 4294967296 * r := by rw [IntKind.wrap_u64]; omega
            have f3 : IntKind.u64.wrap (4294967296 * r + u0) = 4294967296 * r + u0 := by rw [IntKind.wrap_u64]; omega
            have hd := fun t => (guess_done (q := q) (r := r) L0 G t).trans EQ0.out
            have hn := fun t => guess_next (q := q) (r := r) L0 G t
            have hk := fun t t' => (guess_break (q := q) (r := r) L0 G t t').trans EQ0.out
            have ho := fun t => guess_over (q := q) (r := r) L0 G t
            rw [EQ0.out] at ho
            have HD := Lib.hid hd; have HN := Lib.hid hn; have HK := Lib.hid hk; have HO := Lib.hid ho
            have HG := Lib.hid G
            clear hd hn hk ho
            obtain ⟨p, hp⟩ : ∃ p, q * y0 = p := ⟨_, rfl⟩
            rw [hp] at b2 b3 HD HN HK HO
            have f0 : IntKind.u64.wrap (q * y0) = p := f1.trans hp
            clear hp f1 G
            by_cases t : 4294967296 ≤ q ∨ 4294967296 * r + u0 < p
            · have hN := HN.out t; have hK := HK.out t; have hO := HO.out t
              have HN' := Lib.hid hN; have HK' := Lib.hid hK
              clear hN hK HN HK HD HO
              have m1 : 0 ≤ q - 1 := by omega
              have m2 : 0 ≤ r + y1 := by omega
              have m4 : IntKind.u64.wrap (r + y1) = r + y1 := by rw [IntKind.wrap_u64]; omega
              by_cases t3 : 4294967296 ≤ r + y1
              · have m3 : IntKind.u64.wrap (q - 1) = Q0 := by have := HK'.out t3; have := HG.out.2.1; rw [IntKind.wrap_u64]; omega
                clear HN' HK' HG
                by_cases t1 : 4294967296 ≤ q
                · clear t
                  have r0 := E0.out; have rs := ES.out
                  have g1 : IntKind.u64.wrap (Q1 * 4294967296) = Q1 * 4294967296 := by rw [IntKind.wrap_u64]; omega
                  have g2 : IntKind.u64.wrap (Q1 * 4294967296 + Q0) = Q1 * 4294967296 + Q0 := by rw [IntKind.wrap_u64]; omega
                  go_wp2
                  go_ret2
                  exact ⟨rfl, rfl⟩
                · have t2 : 4294967296 * r + u0 < p := by omega
                  clear t
                  have r0 := E0.out; have rs := ES.out
                  have g1 : IntKind.u64.wrap (Q1 * 4294967296) = Q1 * 4294967296 := by rw [IntKind.wrap_u64]; omega
                  have g2 : IntKind.u64.wrap (Q1 * 4294967296 + Q0) = Q1 * 4294967296 + Q0 := by rw [IntKind.wrap_u64]; omega
                  go_wp2
                  go_ret2
                  exact ⟨rfl, rfl⟩
              · have m3 : IntKind.u64.wrap (q - 1) = q - 1 := by have := HG.out.2.1; rw [IntKind.wrap_u64]; omega
                clear HK' HG
                by_cases t1 : 4294967296 ≤ q
                · clear t
                  go_wp2
                  go_round
                  case rel => exact ⟨_, _, rfl, rfl, HN'.out (by omega)⟩
                  case measure => simp [intOf]; omega
                · have t2 : 4294967296 * r + u0 < p := by omega
                  clear t
                  go_wp2
                  go_round
                  case rel => exact ⟨_, _, rfl, rfl, HN'.out (by omega)⟩
                  case measure => simp [intOf]; omega
            · have t1 : ¬ 4294967296 ≤ q := by omega
              have t2 : ¬ 4294967296 * r + u0 < p := by omega
              have qQ : Q0 = q := (HD.out (by omega)).symm
              clear t HD HN HK HO HG
              subst qQ
              have r0 := E0.out; have rs := ES.out
              have g1 : IntKind.u64.wrap (Q1 * 4294967296) = Q1 * 4294967296 := by rw [IntKind.wrap_u64]; omega
              have g2 : IntKind.u64.wrap (Q1 * 4294967296 + Q0) = Q1 * 4294967296 + Q0 := by rw [IntKind.wrap_u64]; omega
              go_wp2
              go_ret2
              exact ⟨rfl, rfl⟩
        · have t2 : 4294967296 * r + u1 < p := by omega
          clear t
          have r1 := E1.out; have hqb := HQB.out; have erb := HRB.out
          go_wp2
          clear r1 hqb erb f0 f2 f3 b1 b2 b3 b4 b5 b6 b7
          go_loop [18, 16] (fun q r => ∃ a b : Int, q = .int .u64 a ∧ r = .int .u64 b ∧ Guess y1 y0 R1 u0 a b) (fun q _ => (intOf q).toNat)
          case atStart => exact ⟨_, _, rfl, rfl, by first | exact G0 | (rw [HQB.out]; exact G0)⟩
          case round =>
            obtain ⟨q, r, rfl, rfl, G⟩ := hrel
            obtain ⟨b1, b2, b3, b4, b5⟩ := guess_bounds L0 G
            have b6 : 0 ≤ r := G.2.2.2.1
            have b7 : r < 4294967296 := G.2.2.2.2
            have f1 : IntKind.u64.wrap (q * y0) = q * y0 := by rw [IntKind.wrap_u64]; omega
            have f2 : IntKind.u64.wrap (4294967296 * r) = 4294967296 * r := by rw [IntKind.wrap_u64]; omega
            have f3 : IntKind.u64.wrap (4294967296 * r + u0) = 4294967296 * r + u0 := by rw [IntKind.wrap_u64]; omega
            have hd := fun t => (guess_done (q := q) (r := r) L0 G t).trans EQ0.out
            have hn := fun t => guess_next (q := q) (r := r) L0 G t
            have hk := fun t t' => (guess_break (q := q) (r := r) L0 G t t').trans EQ0.out
            have ho := fun t => guess_over (q := q) (r := r) L0 G t
            rw [EQ0.out] at ho
            have HD := Lib.hid hd; have HN := Lib.hid hn; have HK := Lib.hid hk; have HO := Lib.hid ho
            have HG := Lib.hid G
            clear hd hn hk ho
            obtain ⟨p, hp⟩ : ∃ p, q * y0 = p := ⟨_, rfl⟩
            rw [hp] at b2 b3 HD HN HK HO
            have f0 : IntKind.u64.wrap (q * y0) = p := f1.trans hp
            clear hp f1 G
            by_cases t : 4294967296 ≤ q ∨ 4294967296 * r + u0 < p
            · have hN := HN.out t; have hK := HK.out t; have hO := HO.out t
              have HN' := Lib.hid hN; have HK' := Lib.hid hK
              clear hN hK HN HK HD HO
              have m1 : 0 ≤ q - 1 := by omega
              have m2 : 0 ≤ r + y1 := by omega
              have m4 : IntKind.u64.wrap (r + y1) = r + y1 := by rw [IntKind.wrap_u64]; omega
              by_cases t3 : 4294967296 ≤ r + y1
              · have m3 : IntKind.u64.wrap (q - 1) = Q0 := by have := HK'.out t3; have := HG.out.2.1; rw [IntKind.wrap_u64]; omega
                clear HN' HK' HG
                by_cases t1 : 4294967296 ≤ q
                · clear t
                  have r0 := E0.out; have rs := ES.out
                  have g1 : IntKind.u64.wrap (Q1 * 4294967296) = Q1 * 4294967296 := by rw [IntKind.wrap_u64]; omega
                  have g2 : IntKind.u64.wrap (Q1 * 4294967296 + Q0) = Q1 * 4294967296 + Q0 := by rw [IntKind.wrap_u64]; omega
                  go_wp2
                  go_ret2
                  exact ⟨rfl, rfl⟩
                · have t2 : 4294967296 * r + u0 < p := by omega
                  clear t
                  have r0 := E0.out; have rs := ES.out
                  have g1 : IntKind.u64.wrap (Q1 * 4294967296) = Q1 * 4294967296 := by rw [IntKind.wrap_u64]; omega
                  have g2 : IntKind.u64.wrap (Q1 * 4294967296 + Q0) = Q1 * 4294967296 + Q0 := by rw [IntKind.wrap_u64]; omega
                  go_wp2
                  go_ret2
                  exact ⟨rfl, rfl⟩
              · have m3 : IntKind.u64.wrap (q - 1) = q - 1 := by have := HG.out.2.1; rw [IntKind.wrap_u64]; omega
                clear HK' HG
                by_cases t1 : 4294967296 ≤ q
                · clear t
                  go_wp2
                  go_round
                  case rel => exact ⟨_, _, rfl, rfl, HN'.out (by omega)⟩
                  case measure => simp [intOf]; omega
                · have t2 : 4294967296 * r + u0 < p := by omega
                  clear t
                  go_wp2
                  go_round
                  case rel => exact ⟨_, _, rfl, rfl, HN'.out (by omega)⟩
                  case measure => simp [intOf]; omega
            · have t1 : ¬ 4294967296 ≤ q := by omega
              have t2 : ¬ 4294967296 * r + u0 < p := by omega
              have qQ : Q0 = q := (HD.out (by omega)).symm
              clear t HD HN HK HO HG
              subst qQ
              have r0 := E0.out; have rs := ES.out
              have g1 : IntKind.u64.wrap (Q1 * 4294967296) = Q1 * 4294967296 := by rw [IntKind.wrap_u64]; omega
              have g2 : IntKind.u64.wrap (Q1 * 4294967296 + Q0) = Q1 * 4294967296 + Q0 := by rw [IntKind.wrap_u64]; omega
              go_wp2
              go_ret2
              exact ⟨rfl, rfl⟩
      · have m3 : IntKind.u64.wrap (q - 1) = q - 1 := by have := HG.out.2.1; rw [IntKind.wrap_u64]; omega
        clear HK' HG
        by_cases t1 : 4294967296 ≤ q
        · clear t
          go_wp2
          go_round
          case rel => exact ⟨_, _, rfl, rfl, HN'.out (by omega)⟩
          case measure => simp [intOf]; omega
        · have t2 : 4294967296 * r + u1 < p := by omega
          clear t
          go_wp2
          go_round
          case rel => exact ⟨_, _, rfl, rfl, HN'.out (by omega)⟩
          case measure => simp [intOf]; omega
    · have t1 : ¬ 4294967296 ≤ q := by omega
      have t2 : ¬ 4294967296 * r + u1 < p := by omega
      have qQ : Q1 = q := (HD.out (by omega)).symm
      clear t HD HN HK HO HG
      subst qQ
      have r1 := E1.out; have hqb := HQB.out; have erb := HRB.out
      go_wp2
      clear r1 hqb erb f0 f2 f3 b1 b2 b3 b4 b5 b6 b7
      go_loop [18, 16] (fun q r => ∃ a b : Int, q = .int .u64 a ∧ r = .int .u64 b ∧ Guess y1 y0 R1 u0 a b) (fun q _ => (intOf q).toNat)
      case atStart => exact ⟨_, _, rfl, rfl, by first | exact G0 | (rw [HQB.out]; exact G0)⟩
      case round =>
        obtain ⟨q, r, rfl, rfl, G⟩ := hrel
        obtain ⟨b1, b2, b3, b4, b5⟩ := guess_bounds L0 G
        have b6 : 0 ≤ r := G.2.2.2.1
        have b7 : r < 4294967296 := G.2.2.2.2
        have f1 : IntKind.u64.wrap (q * y0) = q * y0 := by rw [IntKind.wrap_u64]; omega
        have f2 : IntKind.u64.wrap (4294967296 * r) = 4294967296 * r := by rw [IntKind.wrap_u64]; omega
        have f3 : IntKind.u64.wrap (4294967296 * r + u0) = 4294967296 * r + u0 := by rw [IntKind.wrap_u64]; omega
        have hd := fun t => (guess_done (q := q) (r := r) L0 G t).trans EQ0.out
        have hn := fun t => guess_next (q := q) (r := r) L0 G t
        have hk := fun t t' => (guess_break (q := q) (r := r) L0 G t t').trans EQ0.out
        have ho := fun t => guess_over (q := q) (r := r) L0 G t
        rw [EQ0.out] at ho
        have HD := Lib.hid hd; have HN := Lib.hid hn; have HK := Lib.hid hk; have HO := Lib.hid ho
        have HG := Lib.hid G
        clear hd hn hk ho
        obtain ⟨p, hp⟩ : ∃ p, q * y0 = p := ⟨_, rfl⟩
        rw [hp] at b2 b3 HD HN HK HO
        have f0 : IntKind.u64.wrap (q * y0) = p := f1.trans hp
        clear hp f1 G
        by_cases t : 4294967296 ≤ q ∨ 4294967296 * r + u0 < p
        · have hN := HN.out t; have hK := HK.out t; have hO := HO.out t
          have HN' := Lib.hid hN; have HK' := Lib.hid hK
          clear hN hK HN HK HD HO
          have m1 : 0 ≤ q - 1 := by omega
          have m2 : 0 ≤ r + y1 := by omega
          have m4 : IntKind.u64.wrap (r + y1) = r + y1 := by rw [IntKind.wrap_u64]; omega
          by_cases t3 : 4294967296 ≤ r + y1
          · have m3 : IntKind.u64.wrap (q - 1) = Q0 := by have := HK'.out t3; have := HG.out.2.1; rw [IntKind.wrap_u64]; omega
            clear HN' HK' HG
            by_cases t1 : 4294967296 ≤ q
            · clear t
              have r0 := E0.out; have rs := ES.out
              have g1 : IntKind.u64.wrap (Q1 * 4294967296) = Q1 * 4294967296 := by rw [IntKind.wrap_u64]; omega
              have g2 : IntKind.u64.wrap (Q1 * 4294967296 + Q0) = Q1 * 4294967296 + Q0 := by rw [IntKind.wrap_u64]; omega
              go_wp2
              go_ret2
              exact ⟨rfl, rfl⟩
            · have t2 : 4294967296 * r + u0 < p := by omega
              clear t
              have r0 := E0.out; have rs := ES.out
              have g1 : IntKind.u64.wrap (Q1 * 4294967296) = Q1 * 4294967296 := by rw [IntKind.wrap_u64]; omega
              have g2 : IntKind.u64.wrap (Q1 * 4294967296 + Q0) = Q1 * 4294967296 + Q0 := by rw [IntKind.wrap_u64]; omega
              go_wp2
              go_ret2
              exact ⟨rfl, rfl⟩
          · have m3 : IntKind.u64.wrap (q - 1) = q - 1 := by have := HG.out.2.1; rw [IntKind.wrap_u64]; omega
            clear HK' HG
            by_cases t1 : 4294967296 ≤ q
            · clear t
              go_wp2
              go_round
              case rel => exact ⟨_, _, rfl, rfl, HN'.out (by omega)⟩
              case measure => simp [intOf]; omega
            · have t2 : 4294967296 * r + u0 < p := by omega
              clear t
              go_wp2
              go_round
              case rel => exact ⟨_, _, rfl, rfl, HN'.out (by omega)⟩
              case measure => simp [intOf]; omega
        · have t1 : ¬ 4294967296 ≤ q := by omega
          have t2 : ¬ 4294967296 * r + u0 < p := by omega
          have qQ : Q0 = q := (HD.out (by omega)).symm
          clear t HD HN HK HO HG
          subst qQ
          have r0 := E0.out; have rs := ES.out
          have g1 : IntKind.u64.wrap (Q1 * 4294967296) = Q1 * 4294967296 := by rw [IntKind.wrap_u64]; omega
          have g2 : IntKind.u64.wrap (Q1 * 4294967296 + Q0) = Q1 * 4294967296 + Q0 := by rw [IntKind.wrap_u64]; omega
          go_wp2
          go_ret2
          exact ⟨rfl, rfl⟩
end Go.Proofs
namespace Go.Proofs
open Go.Shelf Go.RowKit Go.Proofs.Wide

theorem mask32 (Y : Int) (h0 : 0 ≤ Y) (h1 : Y < 18446744073709551616) : bits BinOp.and IntKind.u64 Y 4294967295 = Y % 4294967296 := by
  obtain ⟨n, rfl⟩ := Int.eq_ofNat_of_zero_le h0
  have := bits_and_u64_nat n 4294967295 (by omega) (by omega)
  rw [show (4294967295 : Nat) = 2 ^ 32 - 1 by decide, Nat.and_two_pow_sub_one_eq_mod] at this
  exact this
theorem shift_parts (h l y s : Nat) (hhy : h < y) (hl : l < 18446744073709551616) (hs : s ≤ 63) (hb : Lib.bitLen y = 64 - s) (hy' : y < 18446744073709551616) :
    9223372036854775808 ≤ y * 2 ^ s ∧ y * 2 ^ s < 18446744073709551616 ∧ h * 2 ^ s < y * 2 ^ s ∧
    (h * 2 ^ s) ||| (l / 2 ^ (64 - s)) = h * 2 ^ s + l / 2 ^ (64 - s) ∧ h * 2 ^ s + l / 2 ^ (64 - s) < y * 2 ^ s ∧
    (h * 18446744073709551616 + l) * 2 ^ s = (h * 2 ^ s + l / 2 ^ (64 - s)) * 18446744073709551616 + l * 2 ^ s % 18446744073709551616 := by
  obtain ⟨b1, b2, b3, b4⟩ := bitLen_bounds y (by omega) hy'
  rw [hb] at b3 b4
  have p : 0 < 2 ^ s := Nat.pow_pos (by decide)
  have e1 : 2 ^ (64 - s - 1) * 2 ^ s = 9223372036854775808 := by rw [← Nat.pow_add, show 64 - s - 1 + s = 63 by omega]
  have e2 : 2 ^ (64 - s) * 2 ^ s = 18446744073709551616 := by rw [← Nat.pow_add, show 64 - s + s = 64 by omega]
  have c1 := Nat.mul_le_mul_right (2 ^ s) b3
  have c2 := Nat.mul_lt_mul_of_pos_right b4 p
  have c3 := Nat.mul_lt_mul_of_pos_right hhy p
  have d : l / 2 ^ (64 - s) < 2 ^ s := by
    rw [Nat.div_lt_iff_lt_mul (Nat.pow_pos (by decide)), Nat.mul_comm]; omega
  have e3 : l * 2 ^ s / 18446744073709551616 = l / 2 ^ (64 - s) := by rw [← e2, Nat.mul_div_mul_right _ _ p]
  have e4 : (h + 1) * 2 ^ s ≤ y * 2 ^ s := Nat.mul_le_mul_right _ hhy
  rw [Nat.add_mul] at e4
  refine ⟨by omega, by omega, c3, ?_, by omega, ?_⟩
  · rw [Nat.mul_comm h, Nat.two_pow_add_eq_or_of_lt d]
  · rw [← e3, Nat.add_mul, Nat.add_mul]
    have := Nat.div_add_mod (l * 2 ^ s) 18446744073709551616
    have e5 : h * 18446744073709551616 * 2 ^ s = h * 2 ^ s * 18446744073709551616 := by rw [Nat.mul_right_comm]
    omega

theorem rest_wrap (u u1 Q Y R : Int) (h : u * 4294967296 + u1 - Q * Y = R) (h0 : 0 ≤ R) (h1 : R < 18446744073709551616) :
    IntKind.u64.wrap (IntKind.u64.wrap (IntKind.u64.wrap (u * 4294967296) + u1) - IntKind.u64.wrap (Q * Y)) = R := by
  simp only [IntKind.wrap_u64]
  omega

theorem div64_high (h l y : Int) (hh : 0 < h) (hhy : h < y) (hl : 0 ≤ l) (hl' : l < 18446744073709551616) (hy' : y < 18446744073709551616) (w : World) :
    Calls Tryz.prog 134 #[.int .u64 h, .int .u64 l, .int .u64 y] w fun e w' => e = .returned (.tuple #[.int .u64 ((h * 18446744073709551616 + l) / y), .int .u64 ((h * 18446744073709551616 + l) % y)]) ∧ w = w' := by
  obtain ⟨h, rfl⟩ := Int.eq_ofNat_of_zero_le (Int.le_of_lt hh)
  obtain ⟨l, rfl⟩ := Int.eq_ofNat_of_zero_le hl
  obtain ⟨y, rfl⟩ := Int.eq_ofNat_of_zero_le (show 0 ≤ y by omega)
  obtain ⟨b1, b2, b3, b4⟩ := bitLen_bounds y (by omega) (by omega)
  obtain ⟨s, hs⟩ : ∃ s, s = 64 - Lib.bitLen y := ⟨_, rfl⟩
  obtain ⟨c1, c2, c3, c4, c5, c6⟩ := shift_parts h l y s (by omega) (by omega) (by omega) (by omega) (by omega)
  obtain ⟨T, hT⟩ : ∃ T, T = 2 ^ s := ⟨_, rfl⟩
  obtain ⟨D, hD⟩ : ∃ D, D = l / 2 ^ (64 - s) := ⟨_, rfl⟩
  have hTI : ((2 : Int) ^ s) = (T : Int) := by rw [hT]; simp
  have hDI : ((l : Int) / 2 ^ (64 - s)) = (D : Int) := by rw [hD]; simp
  have hTp : 0 < T := by rw [hT]; exact Nat.pow_pos (by decide)
  rw [← hT] at c1 c2 c3 c4 c5 c6
  rw [← hD] at c4 c5 c6
  obtain ⟨Y, hY⟩ : ∃ Y, Y = y * T := ⟨_, rfl⟩
  obtain ⟨H, hH⟩ : ∃ H, H = h * T := ⟨_, rfl⟩
  obtain ⟨V, hV⟩ : ∃ V, V = l * T % 18446744073709551616 := ⟨_, rfl⟩
  have hYI : (y : Int) * (T : Int) = (Y : Int) := by rw [hY]; simp
  have hHI : (h : Int) * (T : Int) = (H : Int) := by rw [hH]; simp
  have hVI : IntKind.u64.wrap ((l : Int) * (T : Int)) = (V : Int) := by rw [IntKind.wrap_u64, hV]; simp
  have hVb : V < 18446744073709551616 := by rw [hV]; exact Nat.mod_lt _ (by decide)
  rw [← hY] at c1 c2 c3 c5
  rw [← hH] at c3 c4 c5 c6
  rw [← hV] at c6
  have L1 : Low ((Y : Int) / 4294967296) ((Y : Int) % 4294967296) ((H + D : Nat) : Int) ((V : Int) / 4294967296) := ⟨by omega, by omega, by omega, by omega, by omega, by omega, by omega, by omega⟩
  have eY : (Y : Int) / 4294967296 * 4294967296 + (Y : Int) % 4294967296 = (Y : Int) := by omega
  have rw1 := rest_word ((H + D : Nat) : Int) ((V : Int) / 4294967296) Y _ rfl (by omega) (by omega)
  obtain ⟨R1, hR1⟩ : ∃ R1, (((H + D : Nat) : Int) * 4294967296 + (V : Int) / 4294967296) % (Y : Int) = R1 := ⟨_, rfl⟩
  rw [hR1] at rw1
  have L0 : Low ((Y : Int) / 4294967296) ((Y : Int) % 4294967296) R1 ((V : Int) % 4294967296) := ⟨by omega, by omega, by omega, by omega, by omega, by omega, by omega, by omega⟩
  have rw0 := rest_word R1 ((V : Int) % 4294967296) Y _ rfl (by omega) (by omega)
  have td := two_digits ((H + D : Nat) : Int) ((V : Int) / 4294967296) ((V : Int) % 4294967296) Y (by omega)
  rw [hR1] at td
  have eN : ((H + D : Nat) : Int) * 18446744073709551616 + (V : Int) / 4294967296 * 4294967296 + (V : Int) % 4294967296 = ((h : Int) * 18446744073709551616 + l) * (T : Int) := by
    obtain ⟨X, hX⟩ : ∃ X, X = (h * 18446744073709551616 + l) * T := ⟨_, rfl⟩
    have hXI : ((h : Int) * 18446744073709551616 + l) * (T : Int) = (X : Int) := by rw [hX]; simp
    rw [hXI]
    rw [← hX] at c6
    omega
  have eM : ((h : Int) * 18446744073709551616 + l) * (T : Int) % (Y : Int) = (T : Int) * (((h : Int) * 18446744073709551616 + l) % (y : Int)) := by
    rw [← hYI, Int.mul_comm _ (T : Int), Int.mul_comm (y : Int), Int.mul_emod_mul_of_pos _ _ (by omega)]
  have eD : ((h : Int) * 18446744073709551616 + l) * (T : Int) / (Y : Int) = ((h : Int) * 18446744073709551616 + l) / (y : Int) := by
    rw [← hYI, Int.mul_ediv_mul_of_pos_left _ _ (by omega)]
  rw [eN, eD, eM] at td
  have d1 := digit_bd L1
  have d0 := digit_bd L0
  rw [eY] at d1 d0
  have core := div64_core h l y s hh (by omega) (by omega) hl' hy' w (by omega) (by simp; omega) Y ((Y : Int) / 4294967296) ((Y : Int) % 4294967296) ((H + D : Nat) : Int) V ((V : Int) / 4294967296) ((V : Int) % 4294967296)
    ((((H + D : Nat) : Int) * 4294967296 + (V : Int) / 4294967296) / (Y : Int)) R1 ((R1 * 4294967296 + (V : Int) % 4294967296) / (Y : Int)) ((R1 * 4294967296 + (V : Int) % 4294967296) % (Y : Int)) (((h : Int) * 18446744073709551616 + l) % (y : Int)) L1 L0
    (by rw [hTI, hYI, IntKind.wrap_u64]; omega) rfl (mask32 _ (by omega) (by omega))
    (by rw [hTI, hDI, hHI, IntKind.wrap_u64, Int.emod_eq_of_lt (by omega) (by omega)]; have := bits_or_u64_nat H D (by omega) (by omega); rw [c4] at this; exact this)
    (by rw [hTI]; exact hVI) rfl (mask32 _ (by omega) (by omega)) (by rw [eY]) (by rw [eY])
    (rest_wrap _ _ _ _ _ rw1.1 (by omega) (by omega)) (rest_wrap _ _ _ _ _ rw0.1 (by omega) (by omega))
    (by rw [td.2, hTI, Int.mul_ediv_cancel_left _ (by omega)]) d1.1 d1.2 d0.1 d0.2
  rw [td.1] at core
  exact core

/-- bits.Div64, as long as the quotient is a word. -/
theorem div64_any (h l y : Int) (hh : 0 ≤ h) (hhy : h < y) (hl : 0 ≤ l) (hl' : l < 18446744073709551616) (hy' : y < 18446744073709551616) (w : World) :
    Calls Tryz.prog 134 #[.int .u64 h, .int .u64 l, .int .u64 y] w fun e w' => e = .returned (.tuple #[.int .u64 ((h * 18446744073709551616 + l) / y), .int .u64 ((h * 18446744073709551616 + l) % y)]) ∧ ∃ n, w' = w.drewN n := by
  by_cases h0 : h = 0
  · subst h0
    have := div64_low l y hl hl' hhy hy' w
    simpa using this
  · exact (div64_high h l y (by omega) hhy hl hl' hy' w).mono fun e w' ⟨a, b⟩ => ⟨a, 0, by rw [← b]; simp [World.drewN_zero]⟩
end Go.Proofs
