/- The division of two words by one is the quotient and the rest. No condition beyond what the theorems state. -/
import Derived.Test.YtmggffhecopgiaaDoorDivCore
import Derived.Laws.Bits64b
namespace Go.Proofs
open Go.Shelf Go.RowKit Go.Proofs.Wide

theorem mask32 (Y : Int) (h0 : 0 ≤ Y) (h1 : Y < 18446744073709551616) : bits BinOp.and IntKind.u64 Y 4294967295 = Y % 4294967296 := by
  obtain ⟨n, rfl⟩ := Int.eq_ofNat_of_zero_le h0
  have := bits_and_u64_nat n 4294967295 (by omega) (by omega)
  rw [show (4294967295 : Nat) = 2 ^ 32 - 1 by decide, Nat.and_two_pow_sub_one_eq_mod] at this
  exact this
theorem shift_parts (h l y s : Nat) (hhy : h < y) (hl : l < 18446744073709551616) (hs : s ≤ 63) (hb : Lib.bitLen y = 64 - s) (hy' : y < 18446744073709551616) :
    9223372036854775808 ≤ y * 2 ^ s ∧ y * 2 ^ s < 18446744073709551616 ∧ h * 2 ^ s < y * 2 ^ s ∧
    (h * 2 ^ s) ||| (l / 2 ^ (64 - s)) = h * 2 ^ s + l / 2 ^ (64 - s) ∧ h * 2 ^ s + l / 2 ^ (64 - s) < y * 2 ^ s ∧
    (h * 18446744073709551616 + l) * 2 ^ s = (h * 2 ^ s + l / 2 ^ (64 - s)) * 18446744073709551616 + l * 2 ^ s % 18446744073709551616 := by
  obtain ⟨b1, b2, b3, b4⟩ := bitLen_bounds y (by omega) hy'
  rw [hb] at b3 b4
  have p : 0 < 2 ^ s := Nat.pow_pos (by decide)
  have e1 : 2 ^ (64 - s - 1) * 2 ^ s = 9223372036854775808 := by rw [← Nat.pow_add, show 64 - s - 1 + s = 63 by omega]
  have e2 : 2 ^ (64 - s) * 2 ^ s = 18446744073709551616 := by rw [← Nat.pow_add, show 64 - s + s = 64 by omega]
  have c1 := Nat.mul_le_mul_right (2 ^ s) b3
  have c2 := Nat.mul_lt_mul_of_pos_right b4 p
  have c3 := Nat.mul_lt_mul_of_pos_right hhy p
  have d : l / 2 ^ (64 - s) < 2 ^ s := by
    rw [Nat.div_lt_iff_lt_mul (Nat.pow_pos (by decide)), Nat.mul_comm]; omega
  have e3 : l * 2 ^ s / 18446744073709551616 = l / 2 ^ (64 - s) := by rw [← e2, Nat.mul_div_mul_right _ _ p]
  have e4 : (h + 1) * 2 ^ s ≤ y * 2 ^ s := Nat.mul_le_mul_right _ hhy
  rw [Nat.add_mul] at e4
  refine ⟨by omega, by omega, c3, ?_, by omega, ?_⟩
  · rw [Nat.mul_comm h, Nat.two_pow_add_eq_or_of_lt d]
  · rw [← e3, Nat.add_mul, Nat.add_mul]
    have := Nat.div_add_mod (l * 2 ^ s) 18446744073709551616
    have e5 : h * 18446744073709551616 * 2 ^ s = h * 2 ^ s * 18446744073709551616 := by rw [Nat.mul_right_comm]
    omega

theorem rest_wrap (u u1 Q Y R : Int) (h : u * 4294967296 + u1 - Q * Y = R) (h0 : 0 ≤ R) (h1 : R < 18446744073709551616) :
    IntKind.u64.wrap (IntKind.u64.wrap (IntKind.u64.wrap (u * 4294967296) + u1) - IntKind.u64.wrap (Q * Y)) = R := by
  simp only [IntKind.wrap_u64]
  omega

theorem div64_high (h l y : Int) (hh : 0 < h) (hhy : h < y) (hl : 0 ≤ l) (hl' : l < 18446744073709551616) (hy' : y < 18446744073709551616) (w : World) :
    Calls Tryd.prog 88 #[.int .u64 h, .int .u64 l, .int .u64 y] w fun e w' => e = .returned (.tuple #[.int .u64 ((h * 18446744073709551616 + l) / y), .int .u64 ((h * 18446744073709551616 + l) % y)]) ∧ w = w' := by
  obtain ⟨h, rfl⟩ := Int.eq_ofNat_of_zero_le (Int.le_of_lt hh)
  obtain ⟨l, rfl⟩ := Int.eq_ofNat_of_zero_le hl
  obtain ⟨y, rfl⟩ := Int.eq_ofNat_of_zero_le (show 0 ≤ y by omega)
  obtain ⟨b1, b2, b3, b4⟩ := bitLen_bounds y (by omega) (by omega)
  obtain ⟨s, hs⟩ : ∃ s, s = 64 - Lib.bitLen y := ⟨_, rfl⟩
  obtain ⟨c1, c2, c3, c4, c5, c6⟩ := shift_parts h l y s (by omega) (by omega) (by omega) (by omega) (by omega)
  obtain ⟨T, hT⟩ : ∃ T, T = 2 ^ s := ⟨_, rfl⟩
  obtain ⟨D, hD⟩ : ∃ D, D = l / 2 ^ (64 - s) := ⟨_, rfl⟩
  have hTI : ((2 : Int) ^ s) = (T : Int) := by rw [hT]; simp
  have hDI : ((l : Int) / 2 ^ (64 - s)) = (D : Int) := by rw [hD]; simp
  have hTp : 0 < T := by rw [hT]; exact Nat.pow_pos (by decide)
  rw [← hT] at c1 c2 c3 c4 c5 c6
  rw [← hD] at c4 c5 c6
  obtain ⟨Y, hY⟩ : ∃ Y, Y = y * T := ⟨_, rfl⟩
  obtain ⟨H, hH⟩ : ∃ H, H = h * T := ⟨_, rfl⟩
  obtain ⟨V, hV⟩ : ∃ V, V = l * T % 18446744073709551616 := ⟨_, rfl⟩
  have hYI : (y : Int) * (T : Int) = (Y : Int) := by rw [hY]; simp
  have hHI : (h : Int) * (T : Int) = (H : Int) := by rw [hH]; simp
  have hVI : IntKind.u64.wrap ((l : Int) * (T : Int)) = (V : Int) := by rw [IntKind.wrap_u64, hV]; simp
  have hVb : V < 18446744073709551616 := by rw [hV]; exact Nat.mod_lt _ (by decide)
  rw [← hY] at c1 c2 c3 c5
  rw [← hH] at c3 c4 c5 c6
  rw [← hV] at c6
  have L1 : Low ((Y : Int) / 4294967296) ((Y : Int) % 4294967296) ((H + D : Nat) : Int) ((V : Int) / 4294967296) := ⟨by omega, by omega, by omega, by omega, by omega, by omega, by omega, by omega⟩
  have eY : (Y : Int) / 4294967296 * 4294967296 + (Y : Int) % 4294967296 = (Y : Int) := by omega
  have rw1 := rest_word ((H + D : Nat) : Int) ((V : Int) / 4294967296) Y _ rfl (by omega) (by omega)
  obtain ⟨R1, hR1⟩ : ∃ R1, (((H + D : Nat) : Int) * 4294967296 + (V : Int) / 4294967296) % (Y : Int) = R1 := ⟨_, rfl⟩
  rw [hR1] at rw1
  have L0 : Low ((Y : Int) / 4294967296) ((Y : Int) % 4294967296) R1 ((V : Int) % 4294967296) := ⟨by omega, by omega, by omega, by omega, by omega, by omega, by omega, by omega⟩
  have rw0 := rest_word R1 ((V : Int) % 4294967296) Y _ rfl (by omega) (by omega)
  have td := two_digits ((H + D : Nat) : Int) ((V : Int) / 4294967296) ((V : Int) % 4294967296) Y (by omega)
  rw [hR1] at td
  have eN : ((H + D : Nat) : Int) * 18446744073709551616 + (V : Int) / 4294967296 * 4294967296 + (V : Int) % 4294967296 = ((h : Int) * 18446744073709551616 + l) * (T : Int) := by
    obtain ⟨X, hX⟩ : ∃ X, X = (h * 18446744073709551616 + l) * T := ⟨_, rfl⟩
    have hXI : ((h : Int) * 18446744073709551616 + l) * (T : Int) = (X : Int) := by rw [hX]; simp
    rw [hXI]
    rw [← hX] at c6
    omega
  have eM : ((h : Int) * 18446744073709551616 + l) * (T : Int) % (Y : Int) = (T : Int) * (((h : Int) * 18446744073709551616 + l) % (y : Int)) := by
    rw [← hYI, Int.mul_comm _ (T : Int), Int.mul_comm (y : Int), Int.mul_emod_mul_of_pos _ _ (by omega)]
  have eD : ((h : Int) * 18446744073709551616 + l) * (T : Int) / (Y : Int) = ((h : Int) * 18446744073709551616 + l) / (y : Int) := by
    rw [← hYI, Int.mul_ediv_mul_of_pos_left _ _ (by omega)]
  rw [eN, eD, eM] at td
  have d1 := digit_bd L1
  have d0 := digit_bd L0
  rw [eY] at d1 d0
  have core := div64_core h l y s hh (by omega) (by omega) hl' hy' w (by omega) (by simp; omega) Y ((Y : Int) / 4294967296) ((Y : Int) % 4294967296) ((H + D : Nat) : Int) V ((V : Int) / 4294967296) ((V : Int) % 4294967296)
    ((((H + D : Nat) : Int) * 4294967296 + (V : Int) / 4294967296) / (Y : Int)) R1 ((R1 * 4294967296 + (V : Int) % 4294967296) / (Y : Int)) ((R1 * 4294967296 + (V : Int) % 4294967296) % (Y : Int)) (((h : Int) * 18446744073709551616 + l) % (y : Int)) L1 L0
    (by rw [hTI, hYI, IntKind.wrap_u64]; omega) rfl (mask32 _ (by omega) (by omega))
    (by rw [hTI, hDI, hHI, IntKind.wrap_u64, Int.emod_eq_of_lt (by omega) (by omega)]; have := bits_or_u64_nat H D (by omega) (by omega); rw [c4] at this; exact this)
    (by rw [hTI]; exact hVI) rfl (mask32 _ (by omega) (by omega)) (by rw [eY]) (by rw [eY])
    (rest_wrap _ _ _ _ _ rw1.1 (by omega) (by omega)) (rest_wrap _ _ _ _ _ rw0.1 (by omega) (by omega))
    (by rw [td.2, hTI, Int.mul_ediv_cancel_left _ (by omega)]) d1.1 d1.2 d0.1 d0.2
  rw [td.1] at core
  exact core

/-- bits.Div64, as long as the quotient is a word. -/
theorem div64_any (h l y : Int) (hh : 0 ≤ h) (hhy : h < y) (hl : 0 ≤ l) (hl' : l < 18446744073709551616) (hy' : y < 18446744073709551616) (w : World) :
    Calls Tryd.prog 88 #[.int .u64 h, .int .u64 l, .int .u64 y] w fun e w' => e = .returned (.tuple #[.int .u64 ((h * 18446744073709551616 + l) / y), .int .u64 ((h * 18446744073709551616 + l) % y)]) ∧ ∃ n, w' = w.drewN n := by
  by_cases h0 : h = 0
  · subst h0
    have := div64_low l y hl hl' hhy hy' w
    simpa using this
  · exact (div64_high h l y (by omega) hhy hl hl' hy' w).mono fun e w' ⟨a, b⟩ => ⟨a, 0, by rw [← b]; simp [World.drewN_zero]⟩
end Go.Proofs
