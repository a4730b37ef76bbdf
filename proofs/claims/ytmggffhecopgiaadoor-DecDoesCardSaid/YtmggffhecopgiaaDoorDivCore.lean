/- The division of two words by one, digit by digit. No condition beyond what the theorems state. -/
import Derived.Test.YtmggffhecopgiaaDoorWide
import Derived.Test.YtmggffhecopgiaaDoorDigitMath
import Derived.BigQuiet
import Derived.Deep.QuietTactic
import Derived.Deep.Draws
import Derived.Deep.DeepCutAuto
namespace Go.Proofs
open Go.Shelf Go.RowKit Go.Proofs.Wide

theorem bitLen_bounds (y : Nat) (h0 : 0 < y) (h1 : y < 2 ^ 64) : Lib.bitLen y ≤ 64 ∧ 1 ≤ Lib.bitLen y ∧ 2 ^ (Lib.bitLen y - 1) ≤ y ∧ y < 2 ^ Lib.bitLen y := by
  have a := Nat.log2_self_le (n := y) (by omega)
  have b := Nat.lt_log2_self (n := y)
  have c := Lib.bitLen_shift y.log2 y a h1
  have d : y / 2 ^ y.log2 = 1 := by
    refine Nat.div_eq_of_lt_le ?_ ?_
    · simpa using a
    · rw [Nat.pow_succ] at b; omega
  rw [d, show Lib.bitLen 1 = 1 by decide +kernel] at c
  rw [c]
  have e : y.log2 < 64 := (Nat.log2_lt (by omega)).2 h1
  exact ⟨by omega, by omega, by simpa using a, b⟩

theorem lz (y : Int) (h0 : 0 < y) (h1 : y < 18446744073709551616) (w : World) :
    Calls Tryd.prog 98 #[.int .u64 y] w fun e w' => e = .returned (.int .i64 (64 - (Lib.bitLen y.toNat : Int))) ∧ w = w' :=
  (Tryd.bits_LeadingZeros64 y w (by omega) (by omega)).mono fun e w' ⟨a, b⟩ => ⟨a, b.symm⟩

/-- The first way: nothing above the word. -/
theorem div64_low (l y : Int) (hl : 0 ≤ l) (hl' : l < 18446744073709551616) (hy : 0 < y) (hy' : y < 18446744073709551616) (w : World) :
    Calls Tryd.prog 88 #[.int .u64 0, .int .u64 l, .int .u64 y] w fun e w' => e = .returned (.tuple #[.int .u64 (l / y), .int .u64 (l % y)]) ∧ ∃ n, w' = w.drewN n := by
  have hy0 : ¬ y = 0 := by omega
  have hy1 : ¬ y ≤ 0 := by omega
  go_enter Tryd.func88, Tryd.ntmps88
  go_wp2
  go_quiet (fail)
  go_wp2
  go_ret2
  exact ⟨rfl, _, rfl⟩
set_option maxHeartbeats 4000000 in
set_option maxRecDepth 100000 in
theorem div64_core (h l y : Int) (s : Nat) (hh : 0 < h) (hhy : h < y) (_hl : 0 ≤ l) (_hl' : l < 18446744073709551616) (hy' : y < 18446744073709551616) (w : World)
    (hs : s ≤ 63) (hsb : (Lib.bitLen y.toNat : Int) = 64 - s) (Y y1 y0 u v u1 u0 Q1 R1 Q0 R0 RS : Int) (L1 : Low y1 y0 u u1) (L0 : Low y1 y0 R1 u0)
    (e1 : IntKind.u64.wrap (y * 2 ^ s) = Y) (e2 : Y / 4294967296 = y1) (e3 : bits BinOp.and IntKind.u64 Y 4294967295 = y0)
    (e4 : bits BinOp.or IntKind.u64 (IntKind.u64.wrap (h * 2 ^ s)) (l / 2 ^ (64 - s)) = u) (e5 : IntKind.u64.wrap (l * 2 ^ s) = v) (e6 : v / 4294967296 = u1) (e7 : bits BinOp.and IntKind.u64 v 4294967295 = u0)
    (q1 : (u * 4294967296 + u1) / (y1 * 4294967296 + y0) = Q1) (q0 : (R1 * 4294967296 + u0) / (y1 * 4294967296 + y0) = Q0)
    (r1 : IntKind.u64.wrap (IntKind.u64.wrap (IntKind.u64.wrap (u * 4294967296) + u1) - IntKind.u64.wrap (Q1 * Y)) = R1)
    (r0 : IntKind.u64.wrap (IntKind.u64.wrap (IntKind.u64.wrap (R1 * 4294967296) + u0) - IntKind.u64.wrap (Q0 * Y)) = R0) (rs : R0 / 2 ^ s = RS)
    (z1 : 0 ≤ Q1) (z2 : Q1 < 4294967296) (z3 : 0 ≤ Q0) (z4 : Q0 < 4294967296) :
    Calls Tryd.prog 88 #[.int .u64 h, .int .u64 l, .int .u64 y] w fun e w' => e = .returned (.tuple #[.int .u64 (Q1 * 4294967296 + Q0), .int .u64 RS]) ∧ w = w' := by
  have hy0 : ¬ y = 0 := by omega
  have hy1 : ¬ y ≤ h := by omega
  have hh0 : ¬ h = 0 := by omega
  have hlz := fun w => lz y (by omega) hy' w
  rw [show (64 - (Lib.bitLen y.toNat : Int)) = s by omega] at hlz
  have HL := Lib.hid hlz
  have ya := L1.a; have yb := L1.b; have yc := L1.c; have yd := L1.d
  have ue := L1.e; have ug := L1.g; have uh := L1.h
  have re := L0.e; have rg := L0.g; have rh := L0.h
  have G1 := guess_first L1
  have G0 := guess_first L0
  have y1n : ¬ y1 = 0 := by omega
  have yp : 0 < y1 := by omega
  have uu : u < 18446744073709551616 := by have := L1.f; omega
  have ru : R1 < 18446744073709551616 := by have := L0.f; omega
  obtain ⟨qa, hqa⟩ : ∃ qa, u / y1 = qa := ⟨_, rfl⟩
  obtain ⟨qb, hqb⟩ : ∃ qb, R1 / y1 = qb := ⟨_, rfl⟩
  rw [hqa] at G1
  rw [hqb] at G0
  have B1 := guess_bounds L1 G1
  have B0 := guess_bounds L0 G0
  have era : IntKind.u64.wrap (u - IntKind.u64.wrap (qa * y1)) = u - qa * y1 := by
    have := G1.2.2.2; rw [IntKind.wrap_u64, IntKind.wrap_u64]; omega
  have erb : IntKind.u64.wrap (R1 - IntKind.u64.wrap (qb * y1)) = R1 - qb * y1 := by
    have := G0.2.2.2; rw [IntKind.wrap_u64, IntKind.wrap_u64]; omega
  obtain ⟨ra, hra⟩ : ∃ ra, u - qa * y1 = ra := ⟨_, rfl⟩
  obtain ⟨rb, hrb⟩ : ∃ rb, R1 - qb * y1 = rb := ⟨_, rfl⟩
  rw [hra] at G1 era B1
  rw [hrb] at G0 erb B0
  have E1 := Lib.hid r1; have E0 := Lib.hid r0; have ES := Lib.hid rs
  have EQ1 := Lib.hid q1; have EQ0 := Lib.hid q0
  have HQB := Lib.hid hqb; have HRB := Lib.hid erb
  clear hlz hsb r1 r0 rs q1 q0 hqb erb hra hrb B1 B0
  go_enter Tryd.func88, Tryd.ntmps88
  go_wp2_with (go_at_call 98; refine (HL.out _).mono ?_; rintro e w' ⟨rfl, rfl⟩)
  have X1 := Lib.hid e1; have X2 := Lib.hid e2; have X3 := Lib.hid e3; have X4 := Lib.hid e4; have X5 := Lib.hid e5; have X6 := Lib.hid e6; have X7 := Lib.hid e7; have X8 := Lib.hid hqa; have X9 := Lib.hid era
  clear e1 e2 e3 e4 e5 e6 e7 hqa era
  go_loop [15, 16] (fun q r => ∃ a b : Int, q = .int .u64 a ∧ r = .int .u64 b ∧ Guess y1 y0 u u1 a b) (fun q _ => (intOf q).toNat)
  case atStart => exact ⟨_, _, rfl, rfl, by first | exact G1 | (rw [X8.out]; exact G1)⟩
  case round =>
    obtain ⟨q, r, rfl, rfl, G⟩ := hrel
    obtain ⟨b1, b2, b3, b4, b5⟩ := guess_bounds L1 G
    have b6 : 0 ≤ r := G.2.2.2.1
    have b7 : r < 4294967296 := G.2.2.2.2
    have f1 : IntKind.u64.wrap (q * y0) = q * y0 := by rw [IntKind.wrap_u64]; omega
    have f2 : IntKind.u64.wrap (4294967296 * r) = 4294967296 * r := by rw [IntKind.wrap_u64]; omega
    have f3 : IntKind.u64.wrap (4294967296 * r + u1) = 4294967296 * r + u1 := by rw [IntKind.wrap_u64]; omega
    have hd := fun t => (guess_done (q := q) (r := r) L1 G t).trans EQ1.out
    have hn := fun t => guess_next (q := q) (r := r) L1 G t
    have hk := fun t t' => (guess_break (q := q) (r := r) L1 G t t').trans EQ1.out
    have ho := fun t => guess_over (q := q) (r := r) L1 G t
    rw [EQ1.out] at ho
    have HD := Lib.hid hd; have HN := Lib.hid hn; have HK := Lib.hid hk; have HO := Lib.hid ho
    have HG := Lib.hid G
    clear hd hn hk ho
    obtain ⟨p, hp⟩ : ∃ p, q * y0 = p := ⟨_, rfl⟩
    rw [hp] at b2 b3 HD HN HK HO
    have f0 : IntKind.u64.wrap (q * y0) = p := f1.trans hp
    clear hp f1 G
    by_cases t : 4294967296 ≤ q ∨ 4294967296 * r + u1 < p
    · have hN := HN.out t; have hK := HK.out t; have hO := HO.out t
      have HN' := Lib.hid hN; have HK' := Lib.hid hK
      clear hN hK HN HK HD HO
      have m1 : 0 ≤ q - 1 := by omega
      have m2 : 0 ≤ r + y1 := by omega
      have m4 : IntKind.u64.wrap (r + y1) = r + y1 := by rw [IntKind.wrap_u64]; omega
      by_cases t3 : 4294967296 ≤ r + y1
      · have m3 : IntKind.u64.wrap (q - 1) = Q1 := by have := HK'.out t3; have := HG.out.2.1; rw [IntKind.wrap_u64]; omega
        clear HN' HK' HG
        by_cases t1 : 4294967296 ≤ q
        · clear t
          have r1 := E1.out; have hqb := HQB.out; have erb := HRB.out
          go_wp2
          clear r1 hqb erb f0 f2 f3 b1 b2 b3 b4 b5 b6 b7
          go_loop [18, 16] (fun q r => ∃ a b : Int, q = .int .u64 a ∧ r = .int .u64 b ∧ Guess y1 y0 R1 u0 a b) (fun q _ => (intOf q).toNat)
          case atStart => exact ⟨_, _, rfl, rfl, by first | exact G0 | (rw [HQB.out]; exact G0)⟩
          case round =>
            obtain ⟨q, r, rfl, rfl, G⟩ := hrel
            obtain ⟨b1, b2, b3, b4, b5⟩ := guess_bounds L0 G
            have b6 : 0 ≤ r := G.2.2.2.1
            have b7 : r < 4294967296 := G.2.2.2.2
            have f1 : IntKind.u64.wrap (q * y0) = q * y0 := by rw [IntKind.wrap_u64]; omega
            have f2 : IntKind.u64.wrap (4294967296 * r) = 4294967296 * r := by rw [IntKind.wrap_u64]; omega
            have f3 : IntKind.u64.wrap (4294967296 * r + u0) = 4294967296 * r + u0 := by rw [IntKind.wrap_u64]; omega
            have hd := fun t => (guess_done (q := q) (r := r) L0 G t).trans EQ0.out
            have hn := fun t => guess_next (q := q) (r := r) L0 G t
            have hk := fun t t' => (guess_break (q := q) (r := r) L0 G t t').trans EQ0.out
            have ho := fun t => guess_over (q := q) (r := r) L0 G t
            rw [EQ0.out] at ho
            have HD := Lib.hid hd; have HN := Lib.hid hn; have HK := Lib.hid hk; have HO := Lib.hid ho
            have HG := Lib.hid G
            clear hd hn hk ho
            obtain ⟨p, hp⟩ : ∃ p, q * y0 = p := ⟨_, rfl⟩
            rw [hp] at b2 b3 HD HN HK HO
            have f0 : IntKind.u64.wrap (q * y0) = p := f1.trans hp
            clear hp f1 G
            by_cases t : 4294967296 ≤ q ∨ 4294967296 * r + u0 < p
            · have hN := HN.out t; have hK := HK.out t; have hO := HO.out t
              have HN' := Lib.hid hN; have HK' := Lib.hid hK
              clear hN hK HN HK HD HO
              have m1 : 0 ≤ q - 1 := by omega
              have m2 : 0 ≤ r + y1 := by omega
              have m4 : IntKind.u64.wrap (r + y1) = r + y1 := by rw [IntKind.wrap_u64]; omega
              by_cases t3 : 4294967296 ≤ r + y1
              · have m3 : IntKind.u64.wrap (q - 1) = Q0 := by have := HK'.out t3; have := HG.out.2.1; rw [IntKind.wrap_u64]; omega
                clear HN' HK' HG
                by_cases t1 : 4294967296 ≤ q
                · clear t
                  have r0 := E0.out; have rs := ES.out
                  have g1 : IntKind.u64.wrap (Q1 * 4294967296) = Q1 * 4294967296 := by rw [IntKind.wrap_u64]; omega
                  have g2 : IntKind.u64.wrap (Q1 * 4294967296 + Q0) = Q1 * 4294967296 + Q0 := by rw [IntKind.wrap_u64]; omega
                  go_wp2
                  go_ret2
                  exact ⟨rfl, rfl⟩
                · have t2 : 4294967296 * r + u0 < p := by omega
                  clear t
                  have r0 := E0.out; have rs := ES.out
                  have g1 : IntKind.u64.wrap (Q1 * 4294967296) = Q1 * 4294967296 := by rw [IntKind.wrap_u64]; omega
                  have g2 : IntKind.u64.wrap (Q1 * 4294967296 + Q0) = Q1 * 4294967296 + Q0 := by rw [IntKind.wrap_u64]; omega
                  go_wp2
                  go_ret2
                  exact ⟨rfl, rfl⟩
              · have m3 : IntKind.u64.wrap (q - 1) = q - 1 := by have := HG.out.2.1; rw [IntKind.wrap_u64]; omega
                clear HK' HG
                by_cases t1 : 4294967296 ≤ q
                · clear t
                  go_wp2
                  go_round
                  case rel => exact ⟨_, _, rfl, rfl, HN'.out (by omega)⟩
                  case measure => simp [intOf]; omega
                · have t2 : 4294967296 * r + u0 < p := by omega
                  clear t
                  go_wp2
                  go_round
                  case rel => exact ⟨_, _, rfl, rfl, HN'.out (by omega)⟩
                  case measure => simp [intOf]; omega
            · have t1 : ¬ 4294967296 ≤ q := by omega
              have t2 : ¬ 4294967296 * r + u0 < p := by omega
              have qQ : Q0 = q := (HD.out (by omega)).symm
              clear t HD HN HK HO HG
              subst qQ
              have r0 := E0.out; have rs := ES.out
              have g1 : IntKind.u64.wrap (Q1 * 4294967296) = Q1 * 4294967296 := by rw [IntKind.wrap_u64]; omega
              have g2 : IntKind.u64.wrap (Q1 * 4294967296 + Q0) = Q1 * 4294967296 + Q0 := by rw [IntKind.wrap_u64]; omega
              go_wp2
              go_ret2
              exact ⟨rfl, rfl⟩
        · have t2 : 4294967296 * r + u1 < p := by omega
          clear t
          have r1 := E1.out; have hqb := HQB.out; have erb := HRB.out
          go_wp2
          clear r1 hqb erb f0 f2 f3 b1 b2 b3 b4 b5 b6 b7
          go_loop [18, 16] (fun q r => ∃ a b : Int, q = .int .u64 a ∧ r = .int .u64 b ∧ Guess y1 y0 R1 u0 a b) (fun q _ => (intOf q).toNat)
          case atStart => exact ⟨_, _, rfl, rfl, by first | exact G0 | (rw [HQB.out]; exact G0)⟩
          case round =>
            obtain ⟨q, r, rfl, rfl, G⟩ := hrel
            obtain ⟨b1, b2, b3, b4, b5⟩ := guess_bounds L0 G
            have b6 : 0 ≤ r := G.2.2.2.1
            have b7 : r < 4294967296 := G.2.2.2.2
            have f1 : IntKind.u64.wrap (q * y0) = q * y0 := by rw [IntKind.wrap_u64]; omega
            have f2 : IntKind.u64.wrap (4294967296 * r) = 4294967296 * r := by rw [IntKind.wrap_u64]; omega
            have f3 : IntKind.u64.wrap (4294967296 * r + u0) = 4294967296 * r + u0 := by rw [IntKind.wrap_u64]; omega
            have hd := fun t => (guess_done (q := q) (r := r) L0 G t).trans EQ0.out
            have hn := fun t => guess_next (q := q) (r := r) L0 G t
            have hk := fun t t' => (guess_break (q := q) (r := r) L0 G t t').trans EQ0.out
            have ho := fun t => guess_over (q := q) (r := r) L0 G t
            rw [EQ0.out] at ho
            have HD := Lib.hid hd; have HN := Lib.hid hn; have HK := Lib.hid hk; have HO := Lib.hid ho
            have HG := Lib.hid G
            clear hd hn hk ho
            obtain ⟨p, hp⟩ : ∃ p, q * y0 = p := ⟨_, rfl⟩
            rw [hp] at b2 b3 HD HN HK HO
            have f0 : IntKind.u64.wrap (q * y0) = p := f1.trans hp
            clear hp f1 G
            by_cases t : 4294967296 ≤ q ∨ 4294967296 * r + u0 < p
            · have hN := HN.out t; have hK := HK.out t; have hO := HO.out t
              have HN' := Lib.hid hN; have HK' := Lib.hid hK
              clear hN hK HN HK HD HO
              have m1 : 0 ≤ q - 1 := by omega
              have m2 : 0 ≤ r + y1 := by omega
              have m4 : IntKind.u64.wrap (r + y1) = r + y1 := by rw [IntKind.wrap_u64]; omega
              by_cases t3 : 4294967296 ≤ r + y1
              · have m3 : IntKind.u64.wrap (q - 1) = Q0 := by have := HK'.out t3; have := HG.out.2.1; rw [IntKind.wrap_u64]; omega
                clear HN' HK' HG
                by_cases t1 : 4294967296 ≤ q
                · clear t
                  have r0 := E0.out; have rs := ES.out
                  have g1 : IntKind.u64.wrap (Q1 * 4294967296) = Q1 * 4294967296 := by rw [IntKind.wrap_u64]; omega
                  have g2 : IntKind.u64.wrap (Q1 * 4294967296 + Q0) = Q1 * 4294967296 + Q0 := by rw [IntKind.wrap_u64]; omega
                  go_wp2
                  go_ret2
                  exact ⟨rfl, rfl⟩
                · have t2 : 4294967296 * r + u0 < p := by omega
                  clear t
                  have r0 := E0.out; have rs := ES.out
                  have g1 : IntKind.u64.wrap (Q1 * 4294967296) = Q1 * 4294967296 := by rw [IntKind.wrap_u64]; omega
                  have g2 : IntKind.u64.wrap (Q1 * 4294967296 + Q0) = Q1 * 4294967296 + Q0 := by rw [IntKind.wrap_u64]; omega
                  go_wp2
                  go_ret2
                  exact ⟨rfl, rfl⟩
              · have m3 : IntKind.u64.wrap (q - 1) = q - 1 := by have := HG.out.2.1; rw [IntKind.wrap_u64]; omega
                clear HK' HG
                by_cases t1 : 4294967296 ≤ q
                · clear t
                  go_wp2
                  go_round
                  case rel => exact ⟨_, _, rfl, rfl, HN'.out (by omega)⟩
                  case measure => simp [intOf]; omega
                · have t2 : 4294967296 * r + u0 < p := by omega
                  clear t
                  go_wp2
                  go_round
                  case rel => exact ⟨_, _, rfl, rfl, HN'.out (by omega)⟩
                  case measure => simp [intOf]; omega
            · have t1 : ¬ 4294967296 ≤ q := by omega
              have t2 : ¬ 4294967296 * r + u0 < p := by omega
              have qQ : Q0 = q := (HD.out (by omega)).symm
              clear t HD HN HK HO HG
              subst qQ
              have r0 := E0.out; have rs := ES.out
              have g1 : IntKind.u64.wrap (Q1 * 4294967296) = Q1 * 4294967296 := by rw [IntKind.wrap_u64]; omega
              have g2 : IntKind.u64.wrap (Q1 * 4294967296 + Q0) = Q1 * 4294967296 + Q0 := by rw [IntKind.wrap_u64]; omega
              go_wp2
              go_ret2
              exact ⟨rfl, rfl⟩
      · have m3 : IntKind.u64.wrap (q - 1) = q - 1 := by have := HG.out.2.1; rw [IntKind.wrap_u64]; omega
        clear HK' HG
        by_cases t1 : 4294967296 ≤ q
        · clear t
          go_wp2
          go_round
          case rel => exact ⟨_, _, rfl, rfl, HN'.out (by omega)⟩
          case measure => simp [intOf]; omega
        · have t2 : 4294967296 * r + u1 < p := by omega
          clear t
          go_wp2
          go_round
          case rel => exact ⟨_, _, rfl, rfl, HN'.out (by omega)⟩
          case measure => simp [intOf]; omega
    · have t1 : ¬ 4294967296 ≤ q := by omega
      have t2 : ¬ 4294967296 * r + u1 < p := by omega
      have qQ : Q1 = q := (HD.out (by omega)).symm
      clear t HD HN HK HO HG
      subst qQ
      have r1 := E1.out; have hqb := HQB.out; have erb := HRB.out
      go_wp2
      clear r1 hqb erb f0 f2 f3 b1 b2 b3 b4 b5 b6 b7
      go_loop [18, 16] (fun q r => ∃ a b : Int, q = .int .u64 a ∧ r = .int .u64 b ∧ Guess y1 y0 R1 u0 a b) (fun q _ => (intOf q).toNat)
      case atStart => exact ⟨_, _, rfl, rfl, by first | exact G0 | (rw [HQB.out]; exact G0)⟩
      case round =>
        obtain ⟨q, r, rfl, rfl, G⟩ := hrel
        obtain ⟨b1, b2, b3, b4, b5⟩ := guess_bounds L0 G
        have b6 : 0 ≤ r := G.2.2.2.1
        have b7 : r < 4294967296 := G.2.2.2.2
        have f1 : IntKind.u64.wrap (q * y0) = q * y0 := by rw [IntKind.wrap_u64]; omega
        have f2 : IntKind.u64.wrap (4294967296 * r) = 4294967296 * r := by rw [IntKind.wrap_u64]; omega
        have f3 : IntKind.u64.wrap (4294967296 * r + u0) = 4294967296 * r + u0 := by rw [IntKind.wrap_u64]; omega
        have hd := fun t => (guess_done (q := q) (r := r) L0 G t).trans EQ0.out
        have hn := fun t => guess_next (q := q) (r := r) L0 G t
        have hk := fun t t' => (guess_break (q := q) (r := r) L0 G t t').trans EQ0.out
        have ho := fun t => guess_over (q := q) (r := r) L0 G t
        rw [EQ0.out] at ho
        have HD := Lib.hid hd; have HN := Lib.hid hn; have HK := Lib.hid hk; have HO := Lib.hid ho
        have HG := Lib.hid G
        clear hd hn hk ho
        obtain ⟨p, hp⟩ : ∃ p, q * y0 = p := ⟨_, rfl⟩
        rw [hp] at b2 b3 HD HN HK HO
        have f0 : IntKind.u64.wrap (q * y0) = p := f1.trans hp
        clear hp f1 G
        by_cases t : 4294967296 ≤ q ∨ 4294967296 * r + u0 < p
        · have hN := HN.out t; have hK := HK.out t; have hO := HO.out t
          have HN' := Lib.hid hN; have HK' := Lib.hid hK
          clear hN hK HN HK HD HO
          have m1 : 0 ≤ q - 1 := by omega
          have m2 : 0 ≤ r + y1 := by omega
          have m4 : IntKind.u64.wrap (r + y1) = r + y1 := by rw [IntKind.wrap_u64]; omega
          by_cases t3 : 4294967296 ≤ r + y1
          · have m3 : IntKind.u64.wrap (q - 1) = Q0 := by have := HK'.out t3; have := HG.out.2.1; rw [IntKind.wrap_u64]; omega
            clear HN' HK' HG
            by_cases t1 : 4294967296 ≤ q
            · clear t
              have r0 := E0.out; have rs := ES.out
              have g1 : IntKind.u64.wrap (Q1 * 4294967296) = Q1 * 4294967296 := by rw [IntKind.wrap_u64]; omega
              have g2 : IntKind.u64.wrap (Q1 * 4294967296 + Q0) = Q1 * 4294967296 + Q0 := by rw [IntKind.wrap_u64]; omega
              go_wp2
              go_ret2
              exact ⟨rfl, rfl⟩
            · have t2 : 4294967296 * r + u0 < p := by omega
              clear t
              have r0 := E0.out; have rs := ES.out
              have g1 : IntKind.u64.wrap (Q1 * 4294967296) = Q1 * 4294967296 := by rw [IntKind.wrap_u64]; omega
              have g2 : IntKind.u64.wrap (Q1 * 4294967296 + Q0) = Q1 * 4294967296 + Q0 := by rw [IntKind.wrap_u64]; omega
              go_wp2
              go_ret2
              exact ⟨rfl, rfl⟩
          · have m3 : IntKind.u64.wrap (q - 1) = q - 1 := by have := HG.out.2.1; rw [IntKind.wrap_u64]; omega
            clear HK' HG
            by_cases t1 : 4294967296 ≤ q
            · clear t
              go_wp2
              go_round
              case rel => exact ⟨_, _, rfl, rfl, HN'.out (by omega)⟩
              case measure => simp [intOf]; omega
            · have t2 : 4294967296 * r + u0 < p := by omega
              clear t
              go_wp2
              go_round
              case rel => exact ⟨_, _, rfl, rfl, HN'.out (by omega)⟩
              case measure => simp [intOf]; omega
        · have t1 : ¬ 4294967296 ≤ q := by omega
          have t2 : ¬ 4294967296 * r + u0 < p := by omega
          have qQ : Q0 = q := (HD.out (by omega)).symm
          clear t HD HN HK HO HG
          subst qQ
          have r0 := E0.out; have rs := ES.out
          have g1 : IntKind.u64.wrap (Q1 * 4294967296) = Q1 * 4294967296 := by rw [IntKind.wrap_u64]; omega
          have g2 : IntKind.u64.wrap (Q1 * 4294967296 + Q0) = Q1 * 4294967296 + Q0 := by rw [IntKind.wrap_u64]; omega
          go_wp2
          go_ret2
          exact ⟨rfl, rfl⟩
end Go.Proofs
