/- The reference: two types in one, in plain words; Sub. No condition beyond what the theorems state. -/
import Derived.Test.YtjpopmgnhgancaaDoorRefTwoA
import Derived.Test.YtjpopmgnhgancaaDoorRefTwoB
import Derived.Test.YtjpopmgnhgancaaDoorRefTwoC
import Derived.Test.YtjpopmgnhgancaaDoorTypes
namespace Go.Proofs.YtjpopmgnhgancaaDoor
open Go.RowKit Go.Lib
set_option maxRecDepth 100000
set_option maxHeartbeats 16000000
def bR (t : TT) : Bool × Bool × Bool := cntR (zT t) t.o
theorem b_five : ∀ (z : Bool) (o : Fin 4), cntR z o.1 = (true, false, false) ∨ cntR z o.1 = (false, true, false) ∨ cntR z o.1 = (true, true, false) ∨ cntR z o.1 = (false, true, true) ∨ cntR z o.1 = (true, true, true) := by decide
theorem bR_five (t : TT) (ht : GT t) : bR t = (true, false, false) ∨ bR t = (false, true, false) ∨ bR t = (true, true, false) ∨ bR t = (false, true, true) ∨ bR t = (true, true, true) := b_five (zT t) (f4 ht.2)
def two0 (x y : TT) : TT := ofT (withK x.k y.k) ((bR x).1 || (bR y).1) ((bR x).2.1 || (bR y).2.1) ((bR x).2.2 || (bR y).2.2)
def two1 (x y : TT) : TT := ofT (withK x.k y.k) ((bR x).1 && (bR y).1) (((bR x).1 && (bR y).2.1) || ((bR x).2.1 && (bR y).1)) (((bR x).2.2 || (bR y).2.2) || ((bR x).2.1 && (bR y).2.1))
def two2 (x y : TT) : TT := if x.k.i = 0 then emptyT else ofT y.k ((bR x).1 || (bR y).1) ((bR x).2.1 && (bR y).2.1) (((bR x).2.2 && ((bR y).2.1 || (bR y).2.2)) || ((bR y).2.2 && ((bR x).2.1 || (bR x).2.2)))
theorem counts_t (t : TT) (ht : GT t) (w : World) : Calls Tryd.prog 37 #[.agg #[.int .i64 (t.k.i : Nat), .string (ba' t.k.n), .int .i64 (t.o : Nat)]] w fun e w' => e = .returned (.tuple #[.bool (bR t).1, .bool (bR t).2.1, .bool (bR t).2.2]) ∧ Below w.heap.size w w' := counts_ref t.k.i t.o ht.2 _ w
theorem two0_ref (x y : TT) (hx : GT x) (hy : GT y) (w : World) : Calls Tryd.prog 21 #[.int .i64 0, .agg #[.int .i64 (x.k.i : Nat), .string (ba' x.k.n), .int .i64 (x.o : Nat)], .agg #[.int .i64 (y.k.i : Nat), .string (ba' y.k.n), .int .i64 (y.o : Nat)]] w fun e w' => e = .returned (.agg #[.int .i64 ((two0 x y).k.i : Nat), .string (ba' (two0 x y).k.n), .int .i64 ((two0 x y).o : Nat)]) ∧ Below w.heap.size w w' := by
  have HX := Lib.hid (fun w1 => counts_t x hx w1)
  have HY := Lib.hid (fun w1 => counts_t y hy w1)
  have HL := Lib.hid (fun w1 => least_ref x y hx hy w1)
  have h5 := bR_five x hx
  have h6 := bR_five y hy
  have HO := Lib.hid (fun (o : Nat) (w1 : World) => of_ref (withK x.k y.k).i o (withK x.k y.k).n ((bR x).1 || (bR y).1) ((bR x).2.1 || (bR y).2.1) ((bR x).2.2 || (bR y).2.2) w1)
  unfold two0
  rcases h5 with h5 | h5 | h5 | h5 | h5
  · rcases h6 with h6 | h6 | h6 | h6 | h6
    · rw [h5] at HX HO ⊢; rw [h6] at HY HO ⊢; exact tw0_tff_tff _ _ _ _ _ _ _ _ _ _ _ HX HY HL HO w
    · rw [h5] at HX HO ⊢; rw [h6] at HY HO ⊢; exact tw0_tff_ftf _ _ _ _ _ _ _ _ _ _ _ HX HY HL HO w
    · rw [h5] at HX HO ⊢; rw [h6] at HY HO ⊢; exact tw0_tff_ttf _ _ _ _ _ _ _ _ _ _ _ HX HY HL HO w
    · rw [h5] at HX HO ⊢; rw [h6] at HY HO ⊢; exact tw0_tff_ftt _ _ _ _ _ _ _ _ _ _ _ HX HY HL HO w
    · rw [h5] at HX HO ⊢; rw [h6] at HY HO ⊢; exact tw0_tff_ttt _ _ _ _ _ _ _ _ _ _ _ HX HY HL HO w
  · rcases h6 with h6 | h6 | h6 | h6 | h6
    · rw [h5] at HX HO ⊢; rw [h6] at HY HO ⊢; exact tw0_ftf_tff _ _ _ _ _ _ _ _ _ _ _ HX HY HL HO w
    · rw [h5] at HX HO ⊢; rw [h6] at HY HO ⊢; exact tw0_ftf_ftf _ _ _ _ _ _ _ _ _ _ _ HX HY HL HO w
    · rw [h5] at HX HO ⊢; rw [h6] at HY HO ⊢; exact tw0_ftf_ttf _ _ _ _ _ _ _ _ _ _ _ HX HY HL HO w
    · rw [h5] at HX HO ⊢; rw [h6] at HY HO ⊢; exact tw0_ftf_ftt _ _ _ _ _ _ _ _ _ _ _ HX HY HL HO w
    · rw [h5] at HX HO ⊢; rw [h6] at HY HO ⊢; exact tw0_ftf_ttt _ _ _ _ _ _ _ _ _ _ _ HX HY HL HO w
  · rcases h6 with h6 | h6 | h6 | h6 | h6
    · rw [h5] at HX HO ⊢; rw [h6] at HY HO ⊢; exact tw0_ttf_tff _ _ _ _ _ _ _ _ _ _ _ HX HY HL HO w
    · rw [h5] at HX HO ⊢; rw [h6] at HY HO ⊢; exact tw0_ttf_ftf _ _ _ _ _ _ _ _ _ _ _ HX HY HL HO w
    · rw [h5] at HX HO ⊢; rw [h6] at HY HO ⊢; exact tw0_ttf_ttf _ _ _ _ _ _ _ _ _ _ _ HX HY HL HO w
    · rw [h5] at HX HO ⊢; rw [h6] at HY HO ⊢; exact tw0_ttf_ftt _ _ _ _ _ _ _ _ _ _ _ HX HY HL HO w
    · rw [h5] at HX HO ⊢; rw [h6] at HY HO ⊢; exact tw0_ttf_ttt _ _ _ _ _ _ _ _ _ _ _ HX HY HL HO w
  · rcases h6 with h6 | h6 | h6 | h6 | h6
    · rw [h5] at HX HO ⊢; rw [h6] at HY HO ⊢; exact tw0_ftt_tff _ _ _ _ _ _ _ _ _ _ _ HX HY HL HO w
    · rw [h5] at HX HO ⊢; rw [h6] at HY HO ⊢; exact tw0_ftt_ftf _ _ _ _ _ _ _ _ _ _ _ HX HY HL HO w
    · rw [h5] at HX HO ⊢; rw [h6] at HY HO ⊢; exact tw0_ftt_ttf _ _ _ _ _ _ _ _ _ _ _ HX HY HL HO w
    · rw [h5] at HX HO ⊢; rw [h6] at HY HO ⊢; exact tw0_ftt_ftt _ _ _ _ _ _ _ _ _ _ _ HX HY HL HO w
    · rw [h5] at HX HO ⊢; rw [h6] at HY HO ⊢; exact tw0_ftt_ttt _ _ _ _ _ _ _ _ _ _ _ HX HY HL HO w
  · rcases h6 with h6 | h6 | h6 | h6 | h6
    · rw [h5] at HX HO ⊢; rw [h6] at HY HO ⊢; exact tw0_ttt_tff _ _ _ _ _ _ _ _ _ _ _ HX HY HL HO w
    · rw [h5] at HX HO ⊢; rw [h6] at HY HO ⊢; exact tw0_ttt_ftf _ _ _ _ _ _ _ _ _ _ _ HX HY HL HO w
    · rw [h5] at HX HO ⊢; rw [h6] at HY HO ⊢; exact tw0_ttt_ttf _ _ _ _ _ _ _ _ _ _ _ HX HY HL HO w
    · rw [h5] at HX HO ⊢; rw [h6] at HY HO ⊢; exact tw0_ttt_ftt _ _ _ _ _ _ _ _ _ _ _ HX HY HL HO w
    · rw [h5] at HX HO ⊢; rw [h6] at HY HO ⊢; exact tw0_ttt_ttt _ _ _ _ _ _ _ _ _ _ _ HX HY HL HO w
theorem two1_ref (x y : TT) (hx : GT x) (hy : GT y) (w : World) : Calls Tryd.prog 21 #[.int .i64 1, .agg #[.int .i64 (x.k.i : Nat), .string (ba' x.k.n), .int .i64 (x.o : Nat)], .agg #[.int .i64 (y.k.i : Nat), .string (ba' y.k.n), .int .i64 (y.o : Nat)]] w fun e w' => e = .returned (.agg #[.int .i64 ((two1 x y).k.i : Nat), .string (ba' (two1 x y).k.n), .int .i64 ((two1 x y).o : Nat)]) ∧ Below w.heap.size w w' := by
  have HX := Lib.hid (fun w1 => counts_t x hx w1)
  have HY := Lib.hid (fun w1 => counts_t y hy w1)
  have HL := Lib.hid (fun w1 => least_ref x y hx hy w1)
  have h5 := bR_five x hx
  have h6 := bR_five y hy
  have HO := Lib.hid (fun (o : Nat) (w1 : World) => of_ref (withK x.k y.k).i o (withK x.k y.k).n ((bR x).1 && (bR y).1) (((bR x).1 && (bR y).2.1) || ((bR x).2.1 && (bR y).1)) (((bR x).2.2 || (bR y).2.2) || ((bR x).2.1 && (bR y).2.1)) w1)
  unfold two1
  rcases h5 with h5 | h5 | h5 | h5 | h5
  · rcases h6 with h6 | h6 | h6 | h6 | h6
    · rw [h5] at HX HO ⊢; rw [h6] at HY HO ⊢; exact tw1_tff_tff _ _ _ _ _ _ _ _ _ _ _ HX HY HL HO w
    · rw [h5] at HX HO ⊢; rw [h6] at HY HO ⊢; exact tw1_tff_ftf _ _ _ _ _ _ _ _ _ _ _ HX HY HL HO w
    · rw [h5] at HX HO ⊢; rw [h6] at HY HO ⊢; exact tw1_tff_ttf _ _ _ _ _ _ _ _ _ _ _ HX HY HL HO w
    · rw [h5] at HX HO ⊢; rw [h6] at HY HO ⊢; exact tw1_tff_ftt _ _ _ _ _ _ _ _ _ _ _ HX HY HL HO w
    · rw [h5] at HX HO ⊢; rw [h6] at HY HO ⊢; exact tw1_tff_ttt _ _ _ _ _ _ _ _ _ _ _ HX HY HL HO w
  · rcases h6 with h6 | h6 | h6 | h6 | h6
    · rw [h5] at HX HO ⊢; rw [h6] at HY HO ⊢; exact tw1_ftf_tff _ _ _ _ _ _ _ _ _ _ _ HX HY HL HO w
    · rw [h5] at HX HO ⊢; rw [h6] at HY HO ⊢; exact tw1_ftf_ftf _ _ _ _ _ _ _ _ _ _ _ HX HY HL HO w
    · rw [h5] at HX HO ⊢; rw [h6] at HY HO ⊢; exact tw1_ftf_ttf _ _ _ _ _ _ _ _ _ _ _ HX HY HL HO w
    · rw [h5] at HX HO ⊢; rw [h6] at HY HO ⊢; exact tw1_ftf_ftt _ _ _ _ _ _ _ _ _ _ _ HX HY HL HO w
    · rw [h5] at HX HO ⊢; rw [h6] at HY HO ⊢; exact tw1_ftf_ttt _ _ _ _ _ _ _ _ _ _ _ HX HY HL HO w
  · rcases h6 with h6 | h6 | h6 | h6 | h6
    · rw [h5] at HX HO ⊢; rw [h6] at HY HO ⊢; exact tw1_ttf_tff _ _ _ _ _ _ _ _ _ _ _ HX HY HL HO w
    · rw [h5] at HX HO ⊢; rw [h6] at HY HO ⊢; exact tw1_ttf_ftf _ _ _ _ _ _ _ _ _ _ _ HX HY HL HO w
    · rw [h5] at HX HO ⊢; rw [h6] at HY HO ⊢; exact tw1_ttf_ttf _ _ _ _ _ _ _ _ _ _ _ HX HY HL HO w
    · rw [h5] at HX HO ⊢; rw [h6] at HY HO ⊢; exact tw1_ttf_ftt _ _ _ _ _ _ _ _ _ _ _ HX HY HL HO w
    · rw [h5] at HX HO ⊢; rw [h6] at HY HO ⊢; exact tw1_ttf_ttt _ _ _ _ _ _ _ _ _ _ _ HX HY HL HO w
  · rcases h6 with h6 | h6 | h6 | h6 | h6
    · rw [h5] at HX HO ⊢; rw [h6] at HY HO ⊢; exact tw1_ftt_tff _ _ _ _ _ _ _ _ _ _ _ HX HY HL HO w
    · rw [h5] at HX HO ⊢; rw [h6] at HY HO ⊢; exact tw1_ftt_ftf _ _ _ _ _ _ _ _ _ _ _ HX HY HL HO w
    · rw [h5] at HX HO ⊢; rw [h6] at HY HO ⊢; exact tw1_ftt_ttf _ _ _ _ _ _ _ _ _ _ _ HX HY HL HO w
    · rw [h5] at HX HO ⊢; rw [h6] at HY HO ⊢; exact tw1_ftt_ftt _ _ _ _ _ _ _ _ _ _ _ HX HY HL HO w
    · rw [h5] at HX HO ⊢; rw [h6] at HY HO ⊢; exact tw1_ftt_ttt _ _ _ _ _ _ _ _ _ _ _ HX HY HL HO w
  · rcases h6 with h6 | h6 | h6 | h6 | h6
    · rw [h5] at HX HO ⊢; rw [h6] at HY HO ⊢; exact tw1_ttt_tff _ _ _ _ _ _ _ _ _ _ _ HX HY HL HO w
    · rw [h5] at HX HO ⊢; rw [h6] at HY HO ⊢; exact tw1_ttt_ftf _ _ _ _ _ _ _ _ _ _ _ HX HY HL HO w
    · rw [h5] at HX HO ⊢; rw [h6] at HY HO ⊢; exact tw1_ttt_ttf _ _ _ _ _ _ _ _ _ _ _ HX HY HL HO w
    · rw [h5] at HX HO ⊢; rw [h6] at HY HO ⊢; exact tw1_ttt_ftt _ _ _ _ _ _ _ _ _ _ _ HX HY HL HO w
    · rw [h5] at HX HO ⊢; rw [h6] at HY HO ⊢; exact tw1_ttt_ttt _ _ _ _ _ _ _ _ _ _ _ HX HY HL HO w
theorem two2_ref (x y : TT) (hx : GT x) (hy : GT y) (w : World) : Calls Tryd.prog 21 #[.int .i64 2, .agg #[.int .i64 (x.k.i : Nat), .string (ba' x.k.n), .int .i64 (x.o : Nat)], .agg #[.int .i64 (y.k.i : Nat), .string (ba' y.k.n), .int .i64 (y.o : Nat)]] w fun e w' => e = .returned (.agg #[.int .i64 ((two2 x y).k.i : Nat), .string (ba' (two2 x y).k.n), .int .i64 ((two2 x y).o : Nat)]) ∧ Below w.heap.size w w' := by
  have HX := Lib.hid (fun w1 => counts_t x hx w1)
  have HY := Lib.hid (fun w1 => counts_t y hy w1)
  have HL := Lib.hid (fun w1 => least_ref x y hx hy w1)
  have h5 := bR_five x hx
  have h6 := bR_five y hy
  have HZ := Lib.hid (fun (w1 : World) => of_zero (ba' x.k.n) x.o true false false w1)
  have HO := Lib.hid (fun (w1 : World) => of_ref y.k.i y.o y.k.n ((bR x).1 || (bR y).1) ((bR x).2.1 && (bR y).2.1) (((bR x).2.2 && ((bR y).2.1 || (bR y).2.2)) || ((bR y).2.2 && ((bR x).2.1 || (bR x).2.2))) w1)
  have hz : bR x = (true, false, false) ↔ x.k.i = 0 := by
    unfold bR zT
    by_cases h : x.k.i = 0
    · simp [h, cntR]
    · simp [h, cntR]
  unfold two2
  rcases h5 with h5 | h5 | h5 | h5 | h5
  · have h0 := hz.1 h5
    rw [if_pos h0]
    rcases h6 with h6 | h6 | h6 | h6 | h6
    · rw [h5, h0] at HX; rw [h0] at HL; rw [h6] at HY; rw [h0]; exact tw2_tff_tff _ _ _ _ _ _ _ _ _ _ HX HY HL HZ w
    · rw [h5, h0] at HX; rw [h0] at HL; rw [h6] at HY; rw [h0]; exact tw2_tff_ftf _ _ _ _ _ _ _ _ _ _ HX HY HL HZ w
    · rw [h5, h0] at HX; rw [h0] at HL; rw [h6] at HY; rw [h0]; exact tw2_tff_ttf _ _ _ _ _ _ _ _ _ _ HX HY HL HZ w
    · rw [h5, h0] at HX; rw [h0] at HL; rw [h6] at HY; rw [h0]; exact tw2_tff_ftt _ _ _ _ _ _ _ _ _ _ HX HY HL HZ w
    · rw [h5, h0] at HX; rw [h0] at HL; rw [h6] at HY; rw [h0]; exact tw2_tff_ttt _ _ _ _ _ _ _ _ _ _ HX HY HL HZ w
  · have h0 : ¬ x.k.i = 0 := fun h => by have := hz.2 h; rw [h5] at this; simp at this
    rw [if_neg h0]
    rcases h6 with h6 | h6 | h6 | h6 | h6
    · rw [h5] at HX HO ⊢; rw [h6] at HY HO ⊢; exact tw2_ftf_tff _ _ _ _ _ _ _ _ _ _ _ HX HY HL h0 HO w
    · rw [h5] at HX HO ⊢; rw [h6] at HY HO ⊢; exact tw2_ftf_ftf _ _ _ _ _ _ _ _ _ _ _ HX HY HL h0 HO w
    · rw [h5] at HX HO ⊢; rw [h6] at HY HO ⊢; exact tw2_ftf_ttf _ _ _ _ _ _ _ _ _ _ _ HX HY HL h0 HO w
    · rw [h5] at HX HO ⊢; rw [h6] at HY HO ⊢; exact tw2_ftf_ftt _ _ _ _ _ _ _ _ _ _ _ HX HY HL h0 HO w
    · rw [h5] at HX HO ⊢; rw [h6] at HY HO ⊢; exact tw2_ftf_ttt _ _ _ _ _ _ _ _ _ _ _ HX HY HL h0 HO w
  · have h0 : ¬ x.k.i = 0 := fun h => by have := hz.2 h; rw [h5] at this; simp at this
    rw [if_neg h0]
    rcases h6 with h6 | h6 | h6 | h6 | h6
    · rw [h5] at HX HO ⊢; rw [h6] at HY HO ⊢; exact tw2_ttf_tff _ _ _ _ _ _ _ _ _ _ _ HX HY HL h0 HO w
    · rw [h5] at HX HO ⊢; rw [h6] at HY HO ⊢; exact tw2_ttf_ftf _ _ _ _ _ _ _ _ _ _ _ HX HY HL h0 HO w
    · rw [h5] at HX HO ⊢; rw [h6] at HY HO ⊢; exact tw2_ttf_ttf _ _ _ _ _ _ _ _ _ _ _ HX HY HL h0 HO w
    · rw [h5] at HX HO ⊢; rw [h6] at HY HO ⊢; exact tw2_ttf_ftt _ _ _ _ _ _ _ _ _ _ _ HX HY HL h0 HO w
    · rw [h5] at HX HO ⊢; rw [h6] at HY HO ⊢; exact tw2_ttf_ttt _ _ _ _ _ _ _ _ _ _ _ HX HY HL h0 HO w
  · have h0 : ¬ x.k.i = 0 := fun h => by have := hz.2 h; rw [h5] at this; simp at this
    rw [if_neg h0]
    rcases h6 with h6 | h6 | h6 | h6 | h6
    · rw [h5] at HX HO ⊢; rw [h6] at HY HO ⊢; exact tw2_ftt_tff _ _ _ _ _ _ _ _ _ _ _ HX HY HL h0 HO w
    · rw [h5] at HX HO ⊢; rw [h6] at HY HO ⊢; exact tw2_ftt_ftf _ _ _ _ _ _ _ _ _ _ _ HX HY HL h0 HO w
    · rw [h5] at HX HO ⊢; rw [h6] at HY HO ⊢; exact tw2_ftt_ttf _ _ _ _ _ _ _ _ _ _ _ HX HY HL h0 HO w
    · rw [h5] at HX HO ⊢; rw [h6] at HY HO ⊢; exact tw2_ftt_ftt _ _ _ _ _ _ _ _ _ _ _ HX HY HL h0 HO w
    · rw [h5] at HX HO ⊢; rw [h6] at HY HO ⊢; exact tw2_ftt_ttt _ _ _ _ _ _ _ _ _ _ _ HX HY HL h0 HO w
  · have h0 : ¬ x.k.i = 0 := fun h => by have := hz.2 h; rw [h5] at this; simp at this
    rw [if_neg h0]
    rcases h6 with h6 | h6 | h6 | h6 | h6
    · rw [h5] at HX HO ⊢; rw [h6] at HY HO ⊢; exact tw2_ttt_tff _ _ _ _ _ _ _ _ _ _ _ HX HY HL h0 HO w
    · rw [h5] at HX HO ⊢; rw [h6] at HY HO ⊢; exact tw2_ttt_ftf _ _ _ _ _ _ _ _ _ _ _ HX HY HL h0 HO w
    · rw [h5] at HX HO ⊢; rw [h6] at HY HO ⊢; exact tw2_ttt_ttf _ _ _ _ _ _ _ _ _ _ _ HX HY HL h0 HO w
    · rw [h5] at HX HO ⊢; rw [h6] at HY HO ⊢; exact tw2_ttt_ftt _ _ _ _ _ _ _ _ _ _ _ HX HY HL h0 HO w
    · rw [h5] at HX HO ⊢; rw [h6] at HY HO ⊢; exact tw2_ttt_ttt _ _ _ _ _ _ _ _ _ _ _ HX HY HL h0 HO w
theorem two0_fin : ∀ (z y : Bool) (o p : Fin 4), (z && y) = false → ((((cntR z o.1).2.1 || (cntR y p.1).2.1) = false ∧ ((cntR z o.1).2.2 || (cntR y p.1).2.2) = false) → False) ∧ (if ((cntR z o.1).1 || (cntR y p.1).1) && ((cntR z o.1).2.2 || (cntR y p.1).2.2) then 3 else if ((cntR z o.1).1 || (cntR y p.1).1) then 1 else if ((cntR z o.1).2.2 || (cntR y p.1).2.2) then 2 else 0) = occC (orC (orC (2, 0) (cz z o.1)) (cz y p.1)) := by decide
theorem two1_fin : ∀ (z y : Bool) (o p : Fin 4), (z && y) = false → (((((cntR z o.1).1 && (cntR y p.1).2.1) || ((cntR z o.1).2.1 && (cntR y p.1).1)) = false ∧ (((cntR z o.1).2.2 || (cntR y p.1).2.2) || ((cntR z o.1).2.1 && (cntR y p.1).2.1)) = false) → False) ∧ (if ((cntR z o.1).1 && (cntR y p.1).1) && (((cntR z o.1).2.2 || (cntR y p.1).2.2) || ((cntR z o.1).2.1 && (cntR y p.1).2.1)) then 3 else if ((cntR z o.1).1 && (cntR y p.1).1) then 1 else if (((cntR z o.1).2.2 || (cntR y p.1).2.2) || ((cntR z o.1).2.1 && (cntR y p.1).2.1)) then 2 else 0) = occC (plusC (plusC (0, 0) (cz z o.1)) (cz y p.1)) := by decide
theorem two2_fin : ∀ (o p : Fin 4), ((((cntR false o.1).2.1 && (cntR false p.1).2.1) = false ∧ (((cntR false o.1).2.2 && ((cntR false p.1).2.1 || (cntR false p.1).2.2)) || ((cntR false p.1).2.2 && ((cntR false o.1).2.1 || (cntR false o.1).2.2))) = false) → False) ∧ (if ((cntR false o.1).1 || (cntR false p.1).1) && (((cntR false o.1).2.2 && ((cntR false p.1).2.1 || (cntR false p.1).2.2)) || ((cntR false p.1).2.2 && ((cntR false o.1).2.1 || (cntR false o.1).2.2))) then 3 else if ((cntR false o.1).1 || (cntR false p.1).1) then 1 else if (((cntR false o.1).2.2 && ((cntR false p.1).2.1 || (cntR false p.1).2.2)) || ((cntR false p.1).2.2 && ((cntR false o.1).2.1 || (cntR false o.1).2.2))) then 2 else 0) = occC (timesC (cz false o.1) (cz false p.1)) := by decide
theorem z_and {x y : TT} (hx : GT x) (hy : GT y) (h : ¬ (withK x.k y.k).i = 0) : (zT x && zT y) = false := by
  rw [← z_with hx hy]
  exact decide_eq_false h
theorem two0_is {x y : TT} (hx : GT x) (hy : GT y) : two0 x y = eitherT [x, y] := by
  rw [either2, two0, madeT, ofT]
  by_cases h : (withK x.k y.k).i = 0
  · rw [if_pos h, if_pos (.inl h)]
  · obtain ⟨f1, f2⟩ := two0_fin (zT x) (zT y) (f4 hx.2) (f4 hy.2) (z_and hx hy h)
    rw [if_neg h, if_neg (by rintro (h' | h'); exact h h'; exact f1 h')]
    exact congrArg (TT.mk _) f2
theorem two1_is {x y : TT} (hx : GT x) (hy : GT y) : two1 x y = joinT [x, y] := by
  rw [join2, two1, madeT, ofT]
  by_cases h : (withK x.k y.k).i = 0
  · rw [if_pos h, if_pos (.inl h)]
  · obtain ⟨f1, f2⟩ := two1_fin (zT x) (zT y) (f4 hx.2) (f4 hy.2) (z_and hx hy h)
    rw [if_neg h, if_neg (by rintro (h' | h'); exact h h'; exact f1 h')]
    exact congrArg (TT.mk _) f2
theorem two2_is {x y : TT} (hx : GT x) (hy : GT y) : two2 x y = timesT x y := by
  rw [two2, timesT, madeT]
  by_cases h : x.k.i = 0
  · rw [if_pos h, if_pos h]; rfl
  · rw [if_neg h, if_neg h, ofT]
    by_cases h' : y.k.i = 0
    · rw [if_pos (.inl h'), if_pos h']
    · have ex : zT x = false := decide_eq_false h
      have ey : zT y = false := decide_eq_false h'
      obtain ⟨f1, f2⟩ := two2_fin (f4 hx.2) (f4 hy.2)
      have e1 : bR x = cntR false (f4 hx.2).1 := by rw [bR, ex]; rfl
      have e2 : bR y = cntR false (f4 hy.2).1 := by rw [bR, ey]; rfl
      have c1 : cT x = cz false (f4 hx.2).1 := by rw [cT, ex]; rfl
      have c2 : cT y = cz false (f4 hy.2).1 := by rw [cT, ey]; rfl
      rw [e1, e2, c1, c2, if_neg (by rintro (h'' | h''); exact h' h''; exact f1 h''), if_neg h']
      exact congrArg (TT.mk _) f2
end Go.Proofs.YtjpopmgnhgancaaDoor
namespace Go.Proofs.YtjpopmgnhgancaaDoor
theorem or3 : ∀ (za zb zc : Bool) (oa ob oc : Fin 4), occC (orC (orC (orC (2, 0) (cz za oa.1)) (cz zb ob.1)) (cz zc oc.1)) = occC (orC (orC (2, 0) (cz (za && zb) (occC (orC (orC (2, 0) (cz za oa.1)) (cz zb ob.1))))) (cz zc oc.1)) := by decide
theorem plus3 : ∀ (za zb zc : Bool) (oa ob oc : Fin 4), occC (plusC (plusC (plusC (0, 0) (cz za oa.1)) (cz zb ob.1)) (cz zc oc.1)) = occC (plusC (plusC (0, 0) (cz (za && zb) (occC (plusC (plusC (0, 0) (cz za oa.1)) (cz zb ob.1))))) (cz zc oc.1)) := by decide
theorem either3 {a b c : TT} (ha : GT a) (hb : GT b) (hc : GT c) : eitherT [a, b, c] = eitherT [eitherT [a, b], c] := by
  rw [either2 (eitherT [a, b]) c, either2 a b, k_made (with_gk ha.1 hb.1), c_made, z_with ha hb]
  have e : kAll [a, b, c] noK = withK (withK a.k b.k) c.k := by
    show withK (withK (withK noK a.k) b.k) c.k = _
    rw [noK, with_no]
  show madeT (kAll [a, b, c] noK) _ = _
  exact made_congr e fun _ => or3 (zT a) (zT b) (zT c) (f4 ha.2) (f4 hb.2) (f4 hc.2)
theorem join3 {a b c : TT} (ha : GT a) (hb : GT b) (hc : GT c) : joinT [a, b, c] = joinT [joinT [a, b], c] := by
  rw [join2 (joinT [a, b]) c, join2 a b, k_made (with_gk ha.1 hb.1), c_made, z_with ha hb]
  have e : kAll [a, b, c] noK = withK (withK a.k b.k) c.k := by
    show withK (withK (withK noK a.k) b.k) c.k = _
    rw [noK, with_no]
  show madeT (kAll [a, b, c] noK) _ = _
  exact made_congr e fun _ => plus3 (zT a) (zT b) (zT c) (f4 ha.2) (f4 hb.2) (f4 hc.2)
theorem or1 : ∀ (o : Fin 4), occC (orC (2, 0) (cz false o.1)) = o.1 := by decide
theorem plus1 : ∀ (o : Fin 4), occC (plusC (0, 0) (cz false o.1)) = occC (plusC (plusC (0, 0) (0, 0)) (cz false o.1)) := by decide
theorem either1 {a : TT} (ha : GT a) : eitherT [a] = eitherT [a, a] := by
  rw [either_self ha]
  show madeT (withK noK a.k) (orC (2, 0) (cT a)) = _
  rw [noK, with_no, madeT, plainT]
  split
  · rfl
  · rename_i h0
    have e : cT a = cz false a.o := by rw [cT, zT]; simp only [h0, decide_false]
    have h5 : occC (orC (2, 0) (cz false a.o)) = a.o := or1 (f4 ha.2)
    rw [e, h5]
theorem join1 {a : TT} (ha : GT a) : joinT [a] = joinT [emptyT, a] := by
  rw [join2]
  show madeT (withK noK a.k) (plusC (0, 0) (cT a)) = madeT (withK noK a.k) (plusC (plusC (0, 0) (0, 0)) (cT a))
  rw [noK, with_no]
  refine made_congr rfl fun h0 => ?_
  have e : cT a = cz false a.o := by rw [cT, zT]; simp only [h0, decide_false]
  rw [e]
  exact plus1 (f4 ha.2)
end Go.Proofs.YtjpopmgnhgancaaDoor
namespace Go.Proofs.YtjpopmgnhgancaaDoor
open Go.RowKit Go.Lib
set_option maxRecDepth 100000
set_option maxHeartbeats 16000000
theorem sr_tff_tff (xo yi yo : Nat) (xn yn : ByteArray) (HX : Hid (∀ w1 : World, Calls Tryd.prog 37 #[.agg #[.int .i64 0, .string xn, .int .i64 (xo : Nat)]] w1 fun e w' => e = .returned (.tuple #[.bool true, .bool false, .bool false]) ∧ Below w1.heap.size w1 w')) (HY : Hid (∀ w1 : World, Calls Tryd.prog 37 #[.agg #[.int .i64 (yi : Nat), .string yn, .int .i64 (yo : Nat)]] w1 fun e w' => e = .returned (.tuple #[.bool true, .bool false, .bool false]) ∧ Below w1.heap.size w1 w')) (w : World) :
    Calls Tryd.prog 23 #[.agg #[.int .i64 0, .string xn, .int .i64 (xo : Nat)], .agg #[.int .i64 (yi : Nat), .string yn, .int .i64 (yo : Nat)]] w fun e w' => e = .returned (.bool true) ∧ Below w.heap.size w w' := by
  go_enter Tryd.func23, Tryd.ntmps23
  go_wp2_with fail
  refine (HX.out _).mono ?_
  rintro e w1 ⟨rfl, hb1⟩
  have B1 : Below w.heap.size w w1 := (by repeat (with_reducible (first | exact Below.refl _ _ | assumption | apply ba | apply bd | apply bdr | (refine bs ?_ (by first | assumption | (simp; done) | (simp; omega))) | (refine bt ?_ (by assumption)))))
  have hc1_0 := fun o => (bcell hb1).1 (w.heap.size) o (by first | (simp; done) | assumption | (simp; omega))
  have zz1_0 : w.heap.size < w1.heap.size := zz hb1 (by first | (simp; done) | assumption | (simp; omega))
  have hc1_1 := fun o => (bcell hb1).1 (w.heap.size + 1) o (by first | (simp; done) | assumption | (simp; omega))
  have zz1_1 : w.heap.size + 1 < w1.heap.size := zz hb1 (by first | (simp; done) | assumption | (simp; omega))
  go_wp2_with fail
  refine (HY.out _).mono ?_
  rintro e w2 ⟨rfl, hb2⟩
  have B2 : Below w.heap.size w w2 := (by repeat (with_reducible (first | exact Below.refl _ _ | assumption | apply ba | apply bd | apply bdr | (refine bs ?_ (by first | assumption | (simp; done) | (simp; omega))) | (refine bt ?_ (by assumption)))))
  have hc2_0 := fun o => (bcell hb2).1 (w.heap.size) o (by first | (simp; done) | assumption | (simp; omega))
  have zz2_0 : w.heap.size < w2.heap.size := zz hb2 (by first | (simp; done) | assumption | (simp; omega))
  have hc2_1 := fun o => (bcell hb2).1 (w.heap.size + 1) o (by first | (simp; done) | assumption | (simp; omega))
  have zz2_1 : w.heap.size + 1 < w2.heap.size := zz hb2 (by first | (simp; done) | assumption | (simp; omega))
  go_wp2
  go_ret
  exact ⟨rfl, by assumption⟩
theorem sr_tff_ftf (xo yi yo : Nat) (xn yn : ByteArray) (HX : Hid (∀ w1 : World, Calls Tryd.prog 37 #[.agg #[.int .i64 0, .string xn, .int .i64 (xo : Nat)]] w1 fun e w' => e = .returned (.tuple #[.bool true, .bool false, .bool false]) ∧ Below w1.heap.size w1 w')) (HY : Hid (∀ w1 : World, Calls Tryd.prog 37 #[.agg #[.int .i64 (yi : Nat), .string yn, .int .i64 (yo : Nat)]] w1 fun e w' => e = .returned (.tuple #[.bool false, .bool true, .bool false]) ∧ Below w1.heap.size w1 w')) (w : World) :
    Calls Tryd.prog 23 #[.agg #[.int .i64 0, .string xn, .int .i64 (xo : Nat)], .agg #[.int .i64 (yi : Nat), .string yn, .int .i64 (yo : Nat)]] w fun e w' => e = .returned (.bool false) ∧ Below w.heap.size w w' := by
  go_enter Tryd.func23, Tryd.ntmps23
  go_wp2_with fail
  refine (HX.out _).mono ?_
  rintro e w1 ⟨rfl, hb1⟩
  have B1 : Below w.heap.size w w1 := (by repeat (with_reducible (first | exact Below.refl _ _ | assumption | apply ba | apply bd | apply bdr | (refine bs ?_ (by first | assumption | (simp; done) | (simp; omega))) | (refine bt ?_ (by assumption)))))
  have hc1_0 := fun o => (bcell hb1).1 (w.heap.size) o (by first | (simp; done) | assumption | (simp; omega))
  have zz1_0 : w.heap.size < w1.heap.size := zz hb1 (by first | (simp; done) | assumption | (simp; omega))
  have hc1_1 := fun o => (bcell hb1).1 (w.heap.size + 1) o (by first | (simp; done) | assumption | (simp; omega))
  have zz1_1 : w.heap.size + 1 < w1.heap.size := zz hb1 (by first | (simp; done) | assumption | (simp; omega))
  go_wp2_with fail
  refine (HY.out _).mono ?_
  rintro e w2 ⟨rfl, hb2⟩
  have B2 : Below w.heap.size w w2 := (by repeat (with_reducible (first | exact Below.refl _ _ | assumption | apply ba | apply bd | apply bdr | (refine bs ?_ (by first | assumption | (simp; done) | (simp; omega))) | (refine bt ?_ (by assumption)))))
  have hc2_0 := fun o => (bcell hb2).1 (w.heap.size) o (by first | (simp; done) | assumption | (simp; omega))
  have zz2_0 : w.heap.size < w2.heap.size := zz hb2 (by first | (simp; done) | assumption | (simp; omega))
  have hc2_1 := fun o => (bcell hb2).1 (w.heap.size + 1) o (by first | (simp; done) | assumption | (simp; omega))
  have zz2_1 : w.heap.size + 1 < w2.heap.size := zz hb2 (by first | (simp; done) | assumption | (simp; omega))
  go_wp2
  go_ret
  exact ⟨rfl, by assumption⟩
theorem sr_tff_ttf (xo yi yo : Nat) (xn yn : ByteArray) (HX : Hid (∀ w1 : World, Calls Tryd.prog 37 #[.agg #[.int .i64 0, .string xn, .int .i64 (xo : Nat)]] w1 fun e w' => e = .returned (.tuple #[.bool true, .bool false, .bool false]) ∧ Below w1.heap.size w1 w')) (HY : Hid (∀ w1 : World, Calls Tryd.prog 37 #[.agg #[.int .i64 (yi : Nat), .string yn, .int .i64 (yo : Nat)]] w1 fun e w' => e = .returned (.tuple #[.bool true, .bool true, .bool false]) ∧ Below w1.heap.size w1 w')) (w : World) :
    Calls Tryd.prog 23 #[.agg #[.int .i64 0, .string xn, .int .i64 (xo : Nat)], .agg #[.int .i64 (yi : Nat), .string yn, .int .i64 (yo : Nat)]] w fun e w' => e = .returned (.bool true) ∧ Below w.heap.size w w' := by
  go_enter Tryd.func23, Tryd.ntmps23
  go_wp2_with fail
  refine (HX.out _).mono ?_
  rintro e w1 ⟨rfl, hb1⟩
  have B1 : Below w.heap.size w w1 := (by repeat (with_reducible (first | exact Below.refl _ _ | assumption | apply ba | apply bd | apply bdr | (refine bs ?_ (by first | assumption | (simp; done) | (simp; omega))) | (refine bt ?_ (by assumption)))))
  have hc1_0 := fun o => (bcell hb1).1 (w.heap.size) o (by first | (simp; done) | assumption | (simp; omega))
  have zz1_0 : w.heap.size < w1.heap.size := zz hb1 (by first | (simp; done) | assumption | (simp; omega))
  have hc1_1 := fun o => (bcell hb1).1 (w.heap.size + 1) o (by first | (simp; done) | assumption | (simp; omega))
  have zz1_1 : w.heap.size + 1 < w1.heap.size := zz hb1 (by first | (simp; done) | assumption | (simp; omega))
  go_wp2_with fail
  refine (HY.out _).mono ?_
  rintro e w2 ⟨rfl, hb2⟩
  have B2 : Below w.heap.size w w2 := (by repeat (with_reducible (first | exact Below.refl _ _ | assumption | apply ba | apply bd | apply bdr | (refine bs ?_ (by first | assumption | (simp; done) | (simp; omega))) | (refine bt ?_ (by assumption)))))
  have hc2_0 := fun o => (bcell hb2).1 (w.heap.size) o (by first | (simp; done) | assumption | (simp; omega))
  have zz2_0 : w.heap.size < w2.heap.size := zz hb2 (by first | (simp; done) | assumption | (simp; omega))
  have hc2_1 := fun o => (bcell hb2).1 (w.heap.size + 1) o (by first | (simp; done) | assumption | (simp; omega))
  have zz2_1 : w.heap.size + 1 < w2.heap.size := zz hb2 (by first | (simp; done) | assumption | (simp; omega))
  go_wp2
  go_ret
  exact ⟨rfl, by assumption⟩
theorem sr_tff_ftt (xo yi yo : Nat) (xn yn : ByteArray) (HX : Hid (∀ w1 : World, Calls Tryd.prog 37 #[.agg #[.int .i64 0, .string xn, .int .i64 (xo : Nat)]] w1 fun e w' => e = .returned (.tuple #[.bool true, .bool false, .bool false]) ∧ Below w1.heap.size w1 w')) (HY : Hid (∀ w1 : World, Calls Tryd.prog 37 #[.agg #[.int .i64 (yi : Nat), .string yn, .int .i64 (yo : Nat)]] w1 fun e w' => e = .returned (.tuple #[.bool false, .bool true, .bool true]) ∧ Below w1.heap.size w1 w')) (w : World) :
    Calls Tryd.prog 23 #[.agg #[.int .i64 0, .string xn, .int .i64 (xo : Nat)], .agg #[.int .i64 (yi : Nat), .string yn, .int .i64 (yo : Nat)]] w fun e w' => e = .returned (.bool false) ∧ Below w.heap.size w w' := by
  go_enter Tryd.func23, Tryd.ntmps23
  go_wp2_with fail
  refine (HX.out _).mono ?_
  rintro e w1 ⟨rfl, hb1⟩
  have B1 : Below w.heap.size w w1 := (by repeat (with_reducible (first | exact Below.refl _ _ | assumption | apply ba | apply bd | apply bdr | (refine bs ?_ (by first | assumption | (simp; done) | (simp; omega))) | (refine bt ?_ (by assumption)))))
  have hc1_0 := fun o => (bcell hb1).1 (w.heap.size) o (by first | (simp; done) | assumption | (simp; omega))
  have zz1_0 : w.heap.size < w1.heap.size := zz hb1 (by first | (simp; done) | assumption | (simp; omega))
  have hc1_1 := fun o => (bcell hb1).1 (w.heap.size + 1) o (by first | (simp; done) | assumption | (simp; omega))
  have zz1_1 : w.heap.size + 1 < w1.heap.size := zz hb1 (by first | (simp; done) | assumption | (simp; omega))
  go_wp2_with fail
  refine (HY.out _).mono ?_
  rintro e w2 ⟨rfl, hb2⟩
  have B2 : Below w.heap.size w w2 := (by repeat (with_reducible (first | exact Below.refl _ _ | assumption | apply ba | apply bd | apply bdr | (refine bs ?_ (by first | assumption | (simp; done) | (simp; omega))) | (refine bt ?_ (by assumption)))))
  have hc2_0 := fun o => (bcell hb2).1 (w.heap.size) o (by first | (simp; done) | assumption | (simp; omega))
  have zz2_0 : w.heap.size < w2.heap.size := zz hb2 (by first | (simp; done) | assumption | (simp; omega))
  have hc2_1 := fun o => (bcell hb2).1 (w.heap.size + 1) o (by first | (simp; done) | assumption | (simp; omega))
  have zz2_1 : w.heap.size + 1 < w2.heap.size := zz hb2 (by first | (simp; done) | assumption | (simp; omega))
  go_wp2
  go_ret
  exact ⟨rfl, by assumption⟩
theorem sr_tff_ttt (xo yi yo : Nat) (xn yn : ByteArray) (HX : Hid (∀ w1 : World, Calls Tryd.prog 37 #[.agg #[.int .i64 0, .string xn, .int .i64 (xo : Nat)]] w1 fun e w' => e = .returned (.tuple #[.bool true, .bool false, .bool false]) ∧ Below w1.heap.size w1 w')) (HY : Hid (∀ w1 : World, Calls Tryd.prog 37 #[.agg #[.int .i64 (yi : Nat), .string yn, .int .i64 (yo : Nat)]] w1 fun e w' => e = .returned (.tuple #[.bool true, .bool true, .bool true]) ∧ Below w1.heap.size w1 w')) (w : World) :
    Calls Tryd.prog 23 #[.agg #[.int .i64 0, .string xn, .int .i64 (xo : Nat)], .agg #[.int .i64 (yi : Nat), .string yn, .int .i64 (yo : Nat)]] w fun e w' => e = .returned (.bool true) ∧ Below w.heap.size w w' := by
  go_enter Tryd.func23, Tryd.ntmps23
  go_wp2_with fail
  refine (HX.out _).mono ?_
  rintro e w1 ⟨rfl, hb1⟩
  have B1 : Below w.heap.size w w1 := (by repeat (with_reducible (first | exact Below.refl _ _ | assumption | apply ba | apply bd | apply bdr | (refine bs ?_ (by first | assumption | (simp; done) | (simp; omega))) | (refine bt ?_ (by assumption)))))
  have hc1_0 := fun o => (bcell hb1).1 (w.heap.size) o (by first | (simp; done) | assumption | (simp; omega))
  have zz1_0 : w.heap.size < w1.heap.size := zz hb1 (by first | (simp; done) | assumption | (simp; omega))
  have hc1_1 := fun o => (bcell hb1).1 (w.heap.size + 1) o (by first | (simp; done) | assumption | (simp; omega))
  have zz1_1 : w.heap.size + 1 < w1.heap.size := zz hb1 (by first | (simp; done) | assumption | (simp; omega))
  go_wp2_with fail
  refine (HY.out _).mono ?_
  rintro e w2 ⟨rfl, hb2⟩
  have B2 : Below w.heap.size w w2 := (by repeat (with_reducible (first | exact Below.refl _ _ | assumption | apply ba | apply bd | apply bdr | (refine bs ?_ (by first | assumption | (simp; done) | (simp; omega))) | (refine bt ?_ (by assumption)))))
  have hc2_0 := fun o => (bcell hb2).1 (w.heap.size) o (by first | (simp; done) | assumption | (simp; omega))
  have zz2_0 : w.heap.size < w2.heap.size := zz hb2 (by first | (simp; done) | assumption | (simp; omega))
  have hc2_1 := fun o => (bcell hb2).1 (w.heap.size + 1) o (by first | (simp; done) | assumption | (simp; omega))
  have zz2_1 : w.heap.size + 1 < w2.heap.size := zz hb2 (by first | (simp; done) | assumption | (simp; omega))
  go_wp2
  go_ret
  exact ⟨rfl, by assumption⟩
theorem sr_ftf_tff (xi xo yi yo : Nat) (xn yn : ByteArray) (HX : Hid (∀ w1 : World, Calls Tryd.prog 37 #[.agg #[.int .i64 (xi : Nat), .string xn, .int .i64 (xo : Nat)]] w1 fun e w' => e = .returned (.tuple #[.bool false, .bool true, .bool false]) ∧ Below w1.heap.size w1 w')) (HY : Hid (∀ w1 : World, Calls Tryd.prog 37 #[.agg #[.int .i64 (yi : Nat), .string yn, .int .i64 (yo : Nat)]] w1 fun e w' => e = .returned (.tuple #[.bool true, .bool false, .bool false]) ∧ Below w1.heap.size w1 w')) (w : World) :
    Calls Tryd.prog 23 #[.agg #[.int .i64 (xi : Nat), .string xn, .int .i64 (xo : Nat)], .agg #[.int .i64 (yi : Nat), .string yn, .int .i64 (yo : Nat)]] w fun e w' => e = .returned (.bool false) ∧ Below w.heap.size w w' := by
  go_enter Tryd.func23, Tryd.ntmps23
  go_wp2_with fail
  refine (HX.out _).mono ?_
  rintro e w1 ⟨rfl, hb1⟩
  have B1 : Below w.heap.size w w1 := (by repeat (with_reducible (first | exact Below.refl _ _ | assumption | apply ba | apply bd | apply bdr | (refine bs ?_ (by first | assumption | (simp; done) | (simp; omega))) | (refine bt ?_ (by assumption)))))
  have hc1_0 := fun o => (bcell hb1).1 (w.heap.size) o (by first | (simp; done) | assumption | (simp; omega))
  have zz1_0 : w.heap.size < w1.heap.size := zz hb1 (by first | (simp; done) | assumption | (simp; omega))
  have hc1_1 := fun o => (bcell hb1).1 (w.heap.size + 1) o (by first | (simp; done) | assumption | (simp; omega))
  have zz1_1 : w.heap.size + 1 < w1.heap.size := zz hb1 (by first | (simp; done) | assumption | (simp; omega))
  go_wp2_with fail
  refine (HY.out _).mono ?_
  rintro e w2 ⟨rfl, hb2⟩
  have B2 : Below w.heap.size w w2 := (by repeat (with_reducible (first | exact Below.refl _ _ | assumption | apply ba | apply bd | apply bdr | (refine bs ?_ (by first | assumption | (simp; done) | (simp; omega))) | (refine bt ?_ (by assumption)))))
  have hc2_0 := fun o => (bcell hb2).1 (w.heap.size) o (by first | (simp; done) | assumption | (simp; omega))
  have zz2_0 : w.heap.size < w2.heap.size := zz hb2 (by first | (simp; done) | assumption | (simp; omega))
  have hc2_1 := fun o => (bcell hb2).1 (w.heap.size + 1) o (by first | (simp; done) | assumption | (simp; omega))
  have zz2_1 : w.heap.size + 1 < w2.heap.size := zz hb2 (by first | (simp; done) | assumption | (simp; omega))
  go_wp2
  go_ret
  exact ⟨rfl, by assumption⟩
theorem sr_ftf_ftf (xi xo yi yo : Nat) (xn yn : ByteArray) (HX : Hid (∀ w1 : World, Calls Tryd.prog 37 #[.agg #[.int .i64 (xi : Nat), .string xn, .int .i64 (xo : Nat)]] w1 fun e w' => e = .returned (.tuple #[.bool false, .bool true, .bool false]) ∧ Below w1.heap.size w1 w')) (HY : Hid (∀ w1 : World, Calls Tryd.prog 37 #[.agg #[.int .i64 (yi : Nat), .string yn, .int .i64 (yo : Nat)]] w1 fun e w' => e = .returned (.tuple #[.bool false, .bool true, .bool false]) ∧ Below w1.heap.size w1 w')) (h0 : ¬ xi = 0) (r : Bool) (HL : Hid (∀ w1 : World, Calls Tryd.prog 18 #[.agg #[.int .i64 (xi : Nat), .string xn, .int .i64 (xo : Nat)], .agg #[.int .i64 (yi : Nat), .string yn, .int .i64 (yo : Nat)]] w1 fun e w' => e = .returned (.bool r) ∧ Below w1.heap.size w1 w')) (w : World) :
    Calls Tryd.prog 23 #[.agg #[.int .i64 (xi : Nat), .string xn, .int .i64 (xo : Nat)], .agg #[.int .i64 (yi : Nat), .string yn, .int .i64 (yo : Nat)]] w fun e w' => e = .returned (.bool r) ∧ Below w.heap.size w w' := by
  have g0 : (xi = 0) = False := by simpa using h0
  have g0b : ((xi : Int) == 0) = false := by simpa using h0
  go_enter Tryd.func23, Tryd.ntmps23
  go_wp2_with fail
  refine (HX.out _).mono ?_
  rintro e w1 ⟨rfl, hb1⟩
  have B1 : Below w.heap.size w w1 := (by repeat (with_reducible (first | exact Below.refl _ _ | assumption | apply ba | apply bd | apply bdr | (refine bs ?_ (by first | assumption | (simp; done) | (simp; omega))) | (refine bt ?_ (by assumption)))))
  have hc1_0 := fun o => (bcell hb1).1 (w.heap.size) o (by first | (simp; done) | assumption | (simp; omega))
  have zz1_0 : w.heap.size < w1.heap.size := zz hb1 (by first | (simp; done) | assumption | (simp; omega))
  have hc1_1 := fun o => (bcell hb1).1 (w.heap.size + 1) o (by first | (simp; done) | assumption | (simp; omega))
  have zz1_1 : w.heap.size + 1 < w1.heap.size := zz hb1 (by first | (simp; done) | assumption | (simp; omega))
  go_wp2_with fail
  refine (HY.out _).mono ?_
  rintro e w2 ⟨rfl, hb2⟩
  have B2 : Below w.heap.size w w2 := (by repeat (with_reducible (first | exact Below.refl _ _ | assumption | apply ba | apply bd | apply bdr | (refine bs ?_ (by first | assumption | (simp; done) | (simp; omega))) | (refine bt ?_ (by assumption)))))
  have hc2_0 := fun o => (bcell hb2).1 (w.heap.size) o (by first | (simp; done) | assumption | (simp; omega))
  have zz2_0 : w.heap.size < w2.heap.size := zz hb2 (by first | (simp; done) | assumption | (simp; omega))
  have hc2_1 := fun o => (bcell hb2).1 (w.heap.size + 1) o (by first | (simp; done) | assumption | (simp; omega))
  have zz2_1 : w.heap.size + 1 < w2.heap.size := zz hb2 (by first | (simp; done) | assumption | (simp; omega))
  go_wp2_with fail
  refine (HL.out _).mono ?_
  rintro e w3 ⟨rfl, hb3⟩
  have B3 : Below w.heap.size w w3 := (by repeat (with_reducible (first | exact Below.refl _ _ | assumption | apply ba | apply bd | apply bdr | (refine bs ?_ (by first | assumption | (simp; done) | (simp; omega))) | (refine bt ?_ (by assumption)))))
  have hc3_0 := fun o => (bcell hb3).1 (w.heap.size) o (by first | (simp; done) | assumption | (simp; omega))
  have zz3_0 : w.heap.size < w3.heap.size := zz hb3 (by first | (simp; done) | assumption | (simp; omega))
  have hc3_1 := fun o => (bcell hb3).1 (w.heap.size + 1) o (by first | (simp; done) | assumption | (simp; omega))
  have zz3_1 : w.heap.size + 1 < w3.heap.size := zz hb3 (by first | (simp; done) | assumption | (simp; omega))
  go_wp2
  go_ret
  exact ⟨rfl, by assumption⟩
theorem sr_ftf_ttf (xi xo yi yo : Nat) (xn yn : ByteArray) (HX : Hid (∀ w1 : World, Calls Tryd.prog 37 #[.agg #[.int .i64 (xi : Nat), .string xn, .int .i64 (xo : Nat)]] w1 fun e w' => e = .returned (.tuple #[.bool false, .bool true, .bool false]) ∧ Below w1.heap.size w1 w')) (HY : Hid (∀ w1 : World, Calls Tryd.prog 37 #[.agg #[.int .i64 (yi : Nat), .string yn, .int .i64 (yo : Nat)]] w1 fun e w' => e = .returned (.tuple #[.bool true, .bool true, .bool false]) ∧ Below w1.heap.size w1 w')) (h0 : ¬ xi = 0) (r : Bool) (HL : Hid (∀ w1 : World, Calls Tryd.prog 18 #[.agg #[.int .i64 (xi : Nat), .string xn, .int .i64 (xo : Nat)], .agg #[.int .i64 (yi : Nat), .string yn, .int .i64 (yo : Nat)]] w1 fun e w' => e = .returned (.bool r) ∧ Below w1.heap.size w1 w')) (w : World) :
    Calls Tryd.prog 23 #[.agg #[.int .i64 (xi : Nat), .string xn, .int .i64 (xo : Nat)], .agg #[.int .i64 (yi : Nat), .string yn, .int .i64 (yo : Nat)]] w fun e w' => e = .returned (.bool r) ∧ Below w.heap.size w w' := by
  have g0 : (xi = 0) = False := by simpa using h0
  have g0b : ((xi : Int) == 0) = false := by simpa using h0
  go_enter Tryd.func23, Tryd.ntmps23
  go_wp2_with fail
  refine (HX.out _).mono ?_
  rintro e w1 ⟨rfl, hb1⟩
  have B1 : Below w.heap.size w w1 := (by repeat (with_reducible (first | exact Below.refl _ _ | assumption | apply ba | apply bd | apply bdr | (refine bs ?_ (by first | assumption | (simp; done) | (simp; omega))) | (refine bt ?_ (by assumption)))))
  have hc1_0 := fun o => (bcell hb1).1 (w.heap.size) o (by first | (simp; done) | assumption | (simp; omega))
  have zz1_0 : w.heap.size < w1.heap.size := zz hb1 (by first | (simp; done) | assumption | (simp; omega))
  have hc1_1 := fun o => (bcell hb1).1 (w.heap.size + 1) o (by first | (simp; done) | assumption | (simp; omega))
  have zz1_1 : w.heap.size + 1 < w1.heap.size := zz hb1 (by first | (simp; done) | assumption | (simp; omega))
  go_wp2_with fail
  refine (HY.out _).mono ?_
  rintro e w2 ⟨rfl, hb2⟩
  have B2 : Below w.heap.size w w2 := (by repeat (with_reducible (first | exact Below.refl _ _ | assumption | apply ba | apply bd | apply bdr | (refine bs ?_ (by first | assumption | (simp; done) | (simp; omega))) | (refine bt ?_ (by assumption)))))
  have hc2_0 := fun o => (bcell hb2).1 (w.heap.size) o (by first | (simp; done) | assumption | (simp; omega))
  have zz2_0 : w.heap.size < w2.heap.size := zz hb2 (by first | (simp; done) | assumption | (simp; omega))
  have hc2_1 := fun o => (bcell hb2).1 (w.heap.size + 1) o (by first | (simp; done) | assumption | (simp; omega))
  have zz2_1 : w.heap.size + 1 < w2.heap.size := zz hb2 (by first | (simp; done) | assumption | (simp; omega))
  go_wp2_with fail
  refine (HL.out _).mono ?_
  rintro e w3 ⟨rfl, hb3⟩
  have B3 : Below w.heap.size w w3 := (by repeat (with_reducible (first | exact Below.refl _ _ | assumption | apply ba | apply bd | apply bdr | (refine bs ?_ (by first | assumption | (simp; done) | (simp; omega))) | (refine bt ?_ (by assumption)))))
  have hc3_0 := fun o => (bcell hb3).1 (w.heap.size) o (by first | (simp; done) | assumption | (simp; omega))
  have zz3_0 : w.heap.size < w3.heap.size := zz hb3 (by first | (simp; done) | assumption | (simp; omega))
  have hc3_1 := fun o => (bcell hb3).1 (w.heap.size + 1) o (by first | (simp; done) | assumption | (simp; omega))
  have zz3_1 : w.heap.size + 1 < w3.heap.size := zz hb3 (by first | (simp; done) | assumption | (simp; omega))
  go_wp2
  go_ret
  exact ⟨rfl, by assumption⟩
theorem sr_ftf_ftt (xi xo yi yo : Nat) (xn yn : ByteArray) (HX : Hid (∀ w1 : World, Calls Tryd.prog 37 #[.agg #[.int .i64 (xi : Nat), .string xn, .int .i64 (xo : Nat)]] w1 fun e w' => e = .returned (.tuple #[.bool false, .bool true, .bool false]) ∧ Below w1.heap.size w1 w')) (HY : Hid (∀ w1 : World, Calls Tryd.prog 37 #[.agg #[.int .i64 (yi : Nat), .string yn, .int .i64 (yo : Nat)]] w1 fun e w' => e = .returned (.tuple #[.bool false, .bool true, .bool true]) ∧ Below w1.heap.size w1 w')) (h0 : ¬ xi = 0) (r : Bool) (HL : Hid (∀ w1 : World, Calls Tryd.prog 18 #[.agg #[.int .i64 (xi : Nat), .string xn, .int .i64 (xo : Nat)], .agg #[.int .i64 (yi : Nat), .string yn, .int .i64 (yo : Nat)]] w1 fun e w' => e = .returned (.bool r) ∧ Below w1.heap.size w1 w')) (w : World) :
    Calls Tryd.prog 23 #[.agg #[.int .i64 (xi : Nat), .string xn, .int .i64 (xo : Nat)], .agg #[.int .i64 (yi : Nat), .string yn, .int .i64 (yo : Nat)]] w fun e w' => e = .returned (.bool r) ∧ Below w.heap.size w w' := by
  have g0 : (xi = 0) = False := by simpa using h0
  have g0b : ((xi : Int) == 0) = false := by simpa using h0
  go_enter Tryd.func23, Tryd.ntmps23
  go_wp2_with fail
  refine (HX.out _).mono ?_
  rintro e w1 ⟨rfl, hb1⟩
  have B1 : Below w.heap.size w w1 := (by repeat (with_reducible (first | exact Below.refl _ _ | assumption | apply ba | apply bd | apply bdr | (refine bs ?_ (by first | assumption | (simp; done) | (simp; omega))) | (refine bt ?_ (by assumption)))))
  have hc1_0 := fun o => (bcell hb1).1 (w.heap.size) o (by first | (simp; done) | assumption | (simp; omega))
  have zz1_0 : w.heap.size < w1.heap.size := zz hb1 (by first | (simp; done) | assumption | (simp; omega))
  have hc1_1 := fun o => (bcell hb1).1 (w.heap.size + 1) o (by first | (simp; done) | assumption | (simp; omega))
  have zz1_1 : w.heap.size + 1 < w1.heap.size := zz hb1 (by first | (simp; done) | assumption | (simp; omega))
  go_wp2_with fail
  refine (HY.out _).mono ?_
  rintro e w2 ⟨rfl, hb2⟩
  have B2 : Below w.heap.size w w2 := (by repeat (with_reducible (first | exact Below.refl _ _ | assumption | apply ba | apply bd | apply bdr | (refine bs ?_ (by first | assumption | (simp; done) | (simp; omega))) | (refine bt ?_ (by assumption)))))
  have hc2_0 := fun o => (bcell hb2).1 (w.heap.size) o (by first | (simp; done) | assumption | (simp; omega))
  have zz2_0 : w.heap.size < w2.heap.size := zz hb2 (by first | (simp; done) | assumption | (simp; omega))
  have hc2_1 := fun o => (bcell hb2).1 (w.heap.size + 1) o (by first | (simp; done) | assumption | (simp; omega))
  have zz2_1 : w.heap.size + 1 < w2.heap.size := zz hb2 (by first | (simp; done) | assumption | (simp; omega))
  go_wp2_with fail
  refine (HL.out _).mono ?_
  rintro e w3 ⟨rfl, hb3⟩
  have B3 : Below w.heap.size w w3 := (by repeat (with_reducible (first | exact Below.refl _ _ | assumption | apply ba | apply bd | apply bdr | (refine bs ?_ (by first | assumption | (simp; done) | (simp; omega))) | (refine bt ?_ (by assumption)))))
  have hc3_0 := fun o => (bcell hb3).1 (w.heap.size) o (by first | (simp; done) | assumption | (simp; omega))
  have zz3_0 : w.heap.size < w3.heap.size := zz hb3 (by first | (simp; done) | assumption | (simp; omega))
  have hc3_1 := fun o => (bcell hb3).1 (w.heap.size + 1) o (by first | (simp; done) | assumption | (simp; omega))
  have zz3_1 : w.heap.size + 1 < w3.heap.size := zz hb3 (by first | (simp; done) | assumption | (simp; omega))
  go_wp2
  go_ret
  exact ⟨rfl, by assumption⟩
theorem sr_ftf_ttt (xi xo yi yo : Nat) (xn yn : ByteArray) (HX : Hid (∀ w1 : World, Calls Tryd.prog 37 #[.agg #[.int .i64 (xi : Nat), .string xn, .int .i64 (xo : Nat)]] w1 fun e w' => e = .returned (.tuple #[.bool false, .bool true, .bool false]) ∧ Below w1.heap.size w1 w')) (HY : Hid (∀ w1 : World, Calls Tryd.prog 37 #[.agg #[.int .i64 (yi : Nat), .string yn, .int .i64 (yo : Nat)]] w1 fun e w' => e = .returned (.tuple #[.bool true, .bool true, .bool true]) ∧ Below w1.heap.size w1 w')) (h0 : ¬ xi = 0) (r : Bool) (HL : Hid (∀ w1 : World, Calls Tryd.prog 18 #[.agg #[.int .i64 (xi : Nat), .string xn, .int .i64 (xo : Nat)], .agg #[.int .i64 (yi : Nat), .string yn, .int .i64 (yo : Nat)]] w1 fun e w' => e = .returned (.bool r) ∧ Below w1.heap.size w1 w')) (w : World) :
    Calls Tryd.prog 23 #[.agg #[.int .i64 (xi : Nat), .string xn, .int .i64 (xo : Nat)], .agg #[.int .i64 (yi : Nat), .string yn, .int .i64 (yo : Nat)]] w fun e w' => e = .returned (.bool r) ∧ Below w.heap.size w w' := by
  have g0 : (xi = 0) = False := by simpa using h0
  have g0b : ((xi : Int) == 0) = false := by simpa using h0
  go_enter Tryd.func23, Tryd.ntmps23
  go_wp2_with fail
  refine (HX.out _).mono ?_
  rintro e w1 ⟨rfl, hb1⟩
  have B1 : Below w.heap.size w w1 := (by repeat (with_reducible (first | exact Below.refl _ _ | assumption | apply ba | apply bd | apply bdr | (refine bs ?_ (by first | assumption | (simp; done) | (simp; omega))) | (refine bt ?_ (by assumption)))))
  have hc1_0 := fun o => (bcell hb1).1 (w.heap.size) o (by first | (simp; done) | assumption | (simp; omega))
  have zz1_0 : w.heap.size < w1.heap.size := zz hb1 (by first | (simp; done) | assumption | (simp; omega))
  have hc1_1 := fun o => (bcell hb1).1 (w.heap.size + 1) o (by first | (simp; done) | assumption | (simp; omega))
  have zz1_1 : w.heap.size + 1 < w1.heap.size := zz hb1 (by first | (simp; done) | assumption | (simp; omega))
  go_wp2_with fail
  refine (HY.out _).mono ?_
  rintro e w2 ⟨rfl, hb2⟩
  have B2 : Below w.heap.size w w2 := (by repeat (with_reducible (first | exact Below.refl _ _ | assumption | apply ba | apply bd | apply bdr | (refine bs ?_ (by first | assumption | (simp; done) | (simp; omega))) | (refine bt ?_ (by assumption)))))
  have hc2_0 := fun o => (bcell hb2).1 (w.heap.size) o (by first | (simp; done) | assumption | (simp; omega))
  have zz2_0 : w.heap.size < w2.heap.size := zz hb2 (by first | (simp; done) | assumption | (simp; omega))
  have hc2_1 := fun o => (bcell hb2).1 (w.heap.size + 1) o (by first | (simp; done) | assumption | (simp; omega))
  have zz2_1 : w.heap.size + 1 < w2.heap.size := zz hb2 (by first | (simp; done) | assumption | (simp; omega))
  go_wp2_with fail
  refine (HL.out _).mono ?_
  rintro e w3 ⟨rfl, hb3⟩
  have B3 : Below w.heap.size w w3 := (by repeat (with_reducible (first | exact Below.refl _ _ | assumption | apply ba | apply bd | apply bdr | (refine bs ?_ (by first | assumption | (simp; done) | (simp; omega))) | (refine bt ?_ (by assumption)))))
  have hc3_0 := fun o => (bcell hb3).1 (w.heap.size) o (by first | (simp; done) | assumption | (simp; omega))
  have zz3_0 : w.heap.size < w3.heap.size := zz hb3 (by first | (simp; done) | assumption | (simp; omega))
  have hc3_1 := fun o => (bcell hb3).1 (w.heap.size + 1) o (by first | (simp; done) | assumption | (simp; omega))
  have zz3_1 : w.heap.size + 1 < w3.heap.size := zz hb3 (by first | (simp; done) | assumption | (simp; omega))
  go_wp2
  go_ret
  exact ⟨rfl, by assumption⟩
theorem sr_ttf_tff (xi xo yi yo : Nat) (xn yn : ByteArray) (HX : Hid (∀ w1 : World, Calls Tryd.prog 37 #[.agg #[.int .i64 (xi : Nat), .string xn, .int .i64 (xo : Nat)]] w1 fun e w' => e = .returned (.tuple #[.bool true, .bool true, .bool false]) ∧ Below w1.heap.size w1 w')) (HY : Hid (∀ w1 : World, Calls Tryd.prog 37 #[.agg #[.int .i64 (yi : Nat), .string yn, .int .i64 (yo : Nat)]] w1 fun e w' => e = .returned (.tuple #[.bool true, .bool false, .bool false]) ∧ Below w1.heap.size w1 w')) (w : World) :
    Calls Tryd.prog 23 #[.agg #[.int .i64 (xi : Nat), .string xn, .int .i64 (xo : Nat)], .agg #[.int .i64 (yi : Nat), .string yn, .int .i64 (yo : Nat)]] w fun e w' => e = .returned (.bool false) ∧ Below w.heap.size w w' := by
  go_enter Tryd.func23, Tryd.ntmps23
  go_wp2_with fail
  refine (HX.out _).mono ?_
  rintro e w1 ⟨rfl, hb1⟩
  have B1 : Below w.heap.size w w1 := (by repeat (with_reducible (first | exact Below.refl _ _ | assumption | apply ba | apply bd | apply bdr | (refine bs ?_ (by first | assumption | (simp; done) | (simp; omega))) | (refine bt ?_ (by assumption)))))
  have hc1_0 := fun o => (bcell hb1).1 (w.heap.size) o (by first | (simp; done) | assumption | (simp; omega))
  have zz1_0 : w.heap.size < w1.heap.size := zz hb1 (by first | (simp; done) | assumption | (simp; omega))
  have hc1_1 := fun o => (bcell hb1).1 (w.heap.size + 1) o (by first | (simp; done) | assumption | (simp; omega))
  have zz1_1 : w.heap.size + 1 < w1.heap.size := zz hb1 (by first | (simp; done) | assumption | (simp; omega))
  go_wp2_with fail
  refine (HY.out _).mono ?_
  rintro e w2 ⟨rfl, hb2⟩
  have B2 : Below w.heap.size w w2 := (by repeat (with_reducible (first | exact Below.refl _ _ | assumption | apply ba | apply bd | apply bdr | (refine bs ?_ (by first | assumption | (simp; done) | (simp; omega))) | (refine bt ?_ (by assumption)))))
  have hc2_0 := fun o => (bcell hb2).1 (w.heap.size) o (by first | (simp; done) | assumption | (simp; omega))
  have zz2_0 : w.heap.size < w2.heap.size := zz hb2 (by first | (simp; done) | assumption | (simp; omega))
  have hc2_1 := fun o => (bcell hb2).1 (w.heap.size + 1) o (by first | (simp; done) | assumption | (simp; omega))
  have zz2_1 : w.heap.size + 1 < w2.heap.size := zz hb2 (by first | (simp; done) | assumption | (simp; omega))
  go_wp2
  go_ret
  exact ⟨rfl, by assumption⟩
theorem sr_ttf_ftf (xi xo yi yo : Nat) (xn yn : ByteArray) (HX : Hid (∀ w1 : World, Calls Tryd.prog 37 #[.agg #[.int .i64 (xi : Nat), .string xn, .int .i64 (xo : Nat)]] w1 fun e w' => e = .returned (.tuple #[.bool true, .bool true, .bool false]) ∧ Below w1.heap.size w1 w')) (HY : Hid (∀ w1 : World, Calls Tryd.prog 37 #[.agg #[.int .i64 (yi : Nat), .string yn, .int .i64 (yo : Nat)]] w1 fun e w' => e = .returned (.tuple #[.bool false, .bool true, .bool false]) ∧ Below w1.heap.size w1 w')) (w : World) :
    Calls Tryd.prog 23 #[.agg #[.int .i64 (xi : Nat), .string xn, .int .i64 (xo : Nat)], .agg #[.int .i64 (yi : Nat), .string yn, .int .i64 (yo : Nat)]] w fun e w' => e = .returned (.bool false) ∧ Below w.heap.size w w' := by
  go_enter Tryd.func23, Tryd.ntmps23
  go_wp2_with fail
  refine (HX.out _).mono ?_
  rintro e w1 ⟨rfl, hb1⟩
  have B1 : Below w.heap.size w w1 := (by repeat (with_reducible (first | exact Below.refl _ _ | assumption | apply ba | apply bd | apply bdr | (refine bs ?_ (by first | assumption | (simp; done) | (simp; omega))) | (refine bt ?_ (by assumption)))))
  have hc1_0 := fun o => (bcell hb1).1 (w.heap.size) o (by first | (simp; done) | assumption | (simp; omega))
  have zz1_0 : w.heap.size < w1.heap.size := zz hb1 (by first | (simp; done) | assumption | (simp; omega))
  have hc1_1 := fun o => (bcell hb1).1 (w.heap.size + 1) o (by first | (simp; done) | assumption | (simp; omega))
  have zz1_1 : w.heap.size + 1 < w1.heap.size := zz hb1 (by first | (simp; done) | assumption | (simp; omega))
  go_wp2_with fail
  refine (HY.out _).mono ?_
  rintro e w2 ⟨rfl, hb2⟩
  have B2 : Below w.heap.size w w2 := (by repeat (with_reducible (first | exact Below.refl _ _ | assumption | apply ba | apply bd | apply bdr | (refine bs ?_ (by first | assumption | (simp; done) | (simp; omega))) | (refine bt ?_ (by assumption)))))
  have hc2_0 := fun o => (bcell hb2).1 (w.heap.size) o (by first | (simp; done) | assumption | (simp; omega))
  have zz2_0 : w.heap.size < w2.heap.size := zz hb2 (by first | (simp; done) | assumption | (simp; omega))
  have hc2_1 := fun o => (bcell hb2).1 (w.heap.size + 1) o (by first | (simp; done) | assumption | (simp; omega))
  have zz2_1 : w.heap.size + 1 < w2.heap.size := zz hb2 (by first | (simp; done) | assumption | (simp; omega))
  go_wp2
  go_ret
  exact ⟨rfl, by assumption⟩
theorem sr_ttf_ttf (xi xo yi yo : Nat) (xn yn : ByteArray) (HX : Hid (∀ w1 : World, Calls Tryd.prog 37 #[.agg #[.int .i64 (xi : Nat), .string xn, .int .i64 (xo : Nat)]] w1 fun e w' => e = .returned (.tuple #[.bool true, .bool true, .bool false]) ∧ Below w1.heap.size w1 w')) (HY : Hid (∀ w1 : World, Calls Tryd.prog 37 #[.agg #[.int .i64 (yi : Nat), .string yn, .int .i64 (yo : Nat)]] w1 fun e w' => e = .returned (.tuple #[.bool true, .bool true, .bool false]) ∧ Below w1.heap.size w1 w')) (h0 : ¬ xi = 0) (r : Bool) (HL : Hid (∀ w1 : World, Calls Tryd.prog 18 #[.agg #[.int .i64 (xi : Nat), .string xn, .int .i64 (xo : Nat)], .agg #[.int .i64 (yi : Nat), .string yn, .int .i64 (yo : Nat)]] w1 fun e w' => e = .returned (.bool r) ∧ Below w1.heap.size w1 w')) (w : World) :
    Calls Tryd.prog 23 #[.agg #[.int .i64 (xi : Nat), .string xn, .int .i64 (xo : Nat)], .agg #[.int .i64 (yi : Nat), .string yn, .int .i64 (yo : Nat)]] w fun e w' => e = .returned (.bool r) ∧ Below w.heap.size w w' := by
  have g0 : (xi = 0) = False := by simpa using h0
  have g0b : ((xi : Int) == 0) = false := by simpa using h0
  go_enter Tryd.func23, Tryd.ntmps23
  go_wp2_with fail
  refine (HX.out _).mono ?_
  rintro e w1 ⟨rfl, hb1⟩
  have B1 : Below w.heap.size w w1 := (by repeat (with_reducible (first | exact Below.refl _ _ | assumption | apply ba | apply bd | apply bdr | (refine bs ?_ (by first | assumption | (simp; done) | (simp; omega))) | (refine bt ?_ (by assumption)))))
  have hc1_0 := fun o => (bcell hb1).1 (w.heap.size) o (by first | (simp; done) | assumption | (simp; omega))
  have zz1_0 : w.heap.size < w1.heap.size := zz hb1 (by first | (simp; done) | assumption | (simp; omega))
  have hc1_1 := fun o => (bcell hb1).1 (w.heap.size + 1) o (by first | (simp; done) | assumption | (simp; omega))
  have zz1_1 : w.heap.size + 1 < w1.heap.size := zz hb1 (by first | (simp; done) | assumption | (simp; omega))
  go_wp2_with fail
  refine (HY.out _).mono ?_
  rintro e w2 ⟨rfl, hb2⟩
  have B2 : Below w.heap.size w w2 := (by repeat (with_reducible (first | exact Below.refl _ _ | assumption | apply ba | apply bd | apply bdr | (refine bs ?_ (by first | assumption | (simp; done) | (simp; omega))) | (refine bt ?_ (by assumption)))))
  have hc2_0 := fun o => (bcell hb2).1 (w.heap.size) o (by first | (simp; done) | assumption | (simp; omega))
  have zz2_0 : w.heap.size < w2.heap.size := zz hb2 (by first | (simp; done) | assumption | (simp; omega))
  have hc2_1 := fun o => (bcell hb2).1 (w.heap.size + 1) o (by first | (simp; done) | assumption | (simp; omega))
  have zz2_1 : w.heap.size + 1 < w2.heap.size := zz hb2 (by first | (simp; done) | assumption | (simp; omega))
  go_wp2_with fail
  refine (HL.out _).mono ?_
  rintro e w3 ⟨rfl, hb3⟩
  have B3 : Below w.heap.size w w3 := (by repeat (with_reducible (first | exact Below.refl _ _ | assumption | apply ba | apply bd | apply bdr | (refine bs ?_ (by first | assumption | (simp; done) | (simp; omega))) | (refine bt ?_ (by assumption)))))
  have hc3_0 := fun o => (bcell hb3).1 (w.heap.size) o (by first | (simp; done) | assumption | (simp; omega))
  have zz3_0 : w.heap.size < w3.heap.size := zz hb3 (by first | (simp; done) | assumption | (simp; omega))
  have hc3_1 := fun o => (bcell hb3).1 (w.heap.size + 1) o (by first | (simp; done) | assumption | (simp; omega))
  have zz3_1 : w.heap.size + 1 < w3.heap.size := zz hb3 (by first | (simp; done) | assumption | (simp; omega))
  go_wp2
  go_ret
  exact ⟨rfl, by assumption⟩
theorem sr_ttf_ftt (xi xo yi yo : Nat) (xn yn : ByteArray) (HX : Hid (∀ w1 : World, Calls Tryd.prog 37 #[.agg #[.int .i64 (xi : Nat), .string xn, .int .i64 (xo : Nat)]] w1 fun e w' => e = .returned (.tuple #[.bool true, .bool true, .bool false]) ∧ Below w1.heap.size w1 w')) (HY : Hid (∀ w1 : World, Calls Tryd.prog 37 #[.agg #[.int .i64 (yi : Nat), .string yn, .int .i64 (yo : Nat)]] w1 fun e w' => e = .returned (.tuple #[.bool false, .bool true, .bool true]) ∧ Below w1.heap.size w1 w')) (w : World) :
    Calls Tryd.prog 23 #[.agg #[.int .i64 (xi : Nat), .string xn, .int .i64 (xo : Nat)], .agg #[.int .i64 (yi : Nat), .string yn, .int .i64 (yo : Nat)]] w fun e w' => e = .returned (.bool false) ∧ Below w.heap.size w w' := by
  go_enter Tryd.func23, Tryd.ntmps23
  go_wp2_with fail
  refine (HX.out _).mono ?_
  rintro e w1 ⟨rfl, hb1⟩
  have B1 : Below w.heap.size w w1 := (by repeat (with_reducible (first | exact Below.refl _ _ | assumption | apply ba | apply bd | apply bdr | (refine bs ?_ (by first | assumption | (simp; done) | (simp; omega))) | (refine bt ?_ (by assumption)))))
  have hc1_0 := fun o => (bcell hb1).1 (w.heap.size) o (by first | (simp; done) | assumption | (simp; omega))
  have zz1_0 : w.heap.size < w1.heap.size := zz hb1 (by first | (simp; done) | assumption | (simp; omega))
  have hc1_1 := fun o => (bcell hb1).1 (w.heap.size + 1) o (by first | (simp; done) | assumption | (simp; omega))
  have zz1_1 : w.heap.size + 1 < w1.heap.size := zz hb1 (by first | (simp; done) | assumption | (simp; omega))
  go_wp2_with fail
  refine (HY.out _).mono ?_
  rintro e w2 ⟨rfl, hb2⟩
  have B2 : Below w.heap.size w w2 := (by repeat (with_reducible (first | exact Below.refl _ _ | assumption | apply ba | apply bd | apply bdr | (refine bs ?_ (by first | assumption | (simp; done) | (simp; omega))) | (refine bt ?_ (by assumption)))))
  have hc2_0 := fun o => (bcell hb2).1 (w.heap.size) o (by first | (simp; done) | assumption | (simp; omega))
  have zz2_0 : w.heap.size < w2.heap.size := zz hb2 (by first | (simp; done) | assumption | (simp; omega))
  have hc2_1 := fun o => (bcell hb2).1 (w.heap.size + 1) o (by first | (simp; done) | assumption | (simp; omega))
  have zz2_1 : w.heap.size + 1 < w2.heap.size := zz hb2 (by first | (simp; done) | assumption | (simp; omega))
  go_wp2
  go_ret
  exact ⟨rfl, by assumption⟩
theorem sr_ttf_ttt (xi xo yi yo : Nat) (xn yn : ByteArray) (HX : Hid (∀ w1 : World, Calls Tryd.prog 37 #[.agg #[.int .i64 (xi : Nat), .string xn, .int .i64 (xo : Nat)]] w1 fun e w' => e = .returned (.tuple #[.bool true, .bool true, .bool false]) ∧ Below w1.heap.size w1 w')) (HY : Hid (∀ w1 : World, Calls Tryd.prog 37 #[.agg #[.int .i64 (yi : Nat), .string yn, .int .i64 (yo : Nat)]] w1 fun e w' => e = .returned (.tuple #[.bool true, .bool true, .bool true]) ∧ Below w1.heap.size w1 w')) (h0 : ¬ xi = 0) (r : Bool) (HL : Hid (∀ w1 : World, Calls Tryd.prog 18 #[.agg #[.int .i64 (xi : Nat), .string xn, .int .i64 (xo : Nat)], .agg #[.int .i64 (yi : Nat), .string yn, .int .i64 (yo : Nat)]] w1 fun e w' => e = .returned (.bool r) ∧ Below w1.heap.size w1 w')) (w : World) :
    Calls Tryd.prog 23 #[.agg #[.int .i64 (xi : Nat), .string xn, .int .i64 (xo : Nat)], .agg #[.int .i64 (yi : Nat), .string yn, .int .i64 (yo : Nat)]] w fun e w' => e = .returned (.bool r) ∧ Below w.heap.size w w' := by
  have g0 : (xi = 0) = False := by simpa using h0
  have g0b : ((xi : Int) == 0) = false := by simpa using h0
  go_enter Tryd.func23, Tryd.ntmps23
  go_wp2_with fail
  refine (HX.out _).mono ?_
  rintro e w1 ⟨rfl, hb1⟩
  have B1 : Below w.heap.size w w1 := (by repeat (with_reducible (first | exact Below.refl _ _ | assumption | apply ba | apply bd | apply bdr | (refine bs ?_ (by first | assumption | (simp; done) | (simp; omega))) | (refine bt ?_ (by assumption)))))
  have hc1_0 := fun o => (bcell hb1).1 (w.heap.size) o (by first | (simp; done) | assumption | (simp; omega))
  have zz1_0 : w.heap.size < w1.heap.size := zz hb1 (by first | (simp; done) | assumption | (simp; omega))
  have hc1_1 := fun o => (bcell hb1).1 (w.heap.size + 1) o (by first | (simp; done) | assumption | (simp; omega))
  have zz1_1 : w.heap.size + 1 < w1.heap.size := zz hb1 (by first | (simp; done) | assumption | (simp; omega))
  go_wp2_with fail
  refine (HY.out _).mono ?_
  rintro e w2 ⟨rfl, hb2⟩
  have B2 : Below w.heap.size w w2 := (by repeat (with_reducible (first | exact Below.refl _ _ | assumption | apply ba | apply bd | apply bdr | (refine bs ?_ (by first | assumption | (simp; done) | (simp; omega))) | (refine bt ?_ (by assumption)))))
  have hc2_0 := fun o => (bcell hb2).1 (w.heap.size) o (by first | (simp; done) | assumption | (simp; omega))
  have zz2_0 : w.heap.size < w2.heap.size := zz hb2 (by first | (simp; done) | assumption | (simp; omega))
  have hc2_1 := fun o => (bcell hb2).1 (w.heap.size + 1) o (by first | (simp; done) | assumption | (simp; omega))
  have zz2_1 : w.heap.size + 1 < w2.heap.size := zz hb2 (by first | (simp; done) | assumption | (simp; omega))
  go_wp2_with fail
  refine (HL.out _).mono ?_
  rintro e w3 ⟨rfl, hb3⟩
  have B3 : Below w.heap.size w w3 := (by repeat (with_reducible (first | exact Below.refl _ _ | assumption | apply ba | apply bd | apply bdr | (refine bs ?_ (by first | assumption | (simp; done) | (simp; omega))) | (refine bt ?_ (by assumption)))))
  have hc3_0 := fun o => (bcell hb3).1 (w.heap.size) o (by first | (simp; done) | assumption | (simp; omega))
  have zz3_0 : w.heap.size < w3.heap.size := zz hb3 (by first | (simp; done) | assumption | (simp; omega))
  have hc3_1 := fun o => (bcell hb3).1 (w.heap.size + 1) o (by first | (simp; done) | assumption | (simp; omega))
  have zz3_1 : w.heap.size + 1 < w3.heap.size := zz hb3 (by first | (simp; done) | assumption | (simp; omega))
  go_wp2
  go_ret
  exact ⟨rfl, by assumption⟩
theorem sr_ftt_tff (xi xo yi yo : Nat) (xn yn : ByteArray) (HX : Hid (∀ w1 : World, Calls Tryd.prog 37 #[.agg #[.int .i64 (xi : Nat), .string xn, .int .i64 (xo : Nat)]] w1 fun e w' => e = .returned (.tuple #[.bool false, .bool true, .bool true]) ∧ Below w1.heap.size w1 w')) (HY : Hid (∀ w1 : World, Calls Tryd.prog 37 #[.agg #[.int .i64 (yi : Nat), .string yn, .int .i64 (yo : Nat)]] w1 fun e w' => e = .returned (.tuple #[.bool true, .bool false, .bool false]) ∧ Below w1.heap.size w1 w')) (w : World) :
    Calls Tryd.prog 23 #[.agg #[.int .i64 (xi : Nat), .string xn, .int .i64 (xo : Nat)], .agg #[.int .i64 (yi : Nat), .string yn, .int .i64 (yo : Nat)]] w fun e w' => e = .returned (.bool false) ∧ Below w.heap.size w w' := by
  go_enter Tryd.func23, Tryd.ntmps23
  go_wp2_with fail
  refine (HX.out _).mono ?_
  rintro e w1 ⟨rfl, hb1⟩
  have B1 : Below w.heap.size w w1 := (by repeat (with_reducible (first | exact Below.refl _ _ | assumption | apply ba | apply bd | apply bdr | (refine bs ?_ (by first | assumption | (simp; done) | (simp; omega))) | (refine bt ?_ (by assumption)))))
  have hc1_0 := fun o => (bcell hb1).1 (w.heap.size) o (by first | (simp; done) | assumption | (simp; omega))
  have zz1_0 : w.heap.size < w1.heap.size := zz hb1 (by first | (simp; done) | assumption | (simp; omega))
  have hc1_1 := fun o => (bcell hb1).1 (w.heap.size + 1) o (by first | (simp; done) | assumption | (simp; omega))
  have zz1_1 : w.heap.size + 1 < w1.heap.size := zz hb1 (by first | (simp; done) | assumption | (simp; omega))
  go_wp2_with fail
  refine (HY.out _).mono ?_
  rintro e w2 ⟨rfl, hb2⟩
  have B2 : Below w.heap.size w w2 := (by repeat (with_reducible (first | exact Below.refl _ _ | assumption | apply ba | apply bd | apply bdr | (refine bs ?_ (by first | assumption | (simp; done) | (simp; omega))) | (refine bt ?_ (by assumption)))))
  have hc2_0 := fun o => (bcell hb2).1 (w.heap.size) o (by first | (simp; done) | assumption | (simp; omega))
  have zz2_0 : w.heap.size < w2.heap.size := zz hb2 (by first | (simp; done) | assumption | (simp; omega))
  have hc2_1 := fun o => (bcell hb2).1 (w.heap.size + 1) o (by first | (simp; done) | assumption | (simp; omega))
  have zz2_1 : w.heap.size + 1 < w2.heap.size := zz hb2 (by first | (simp; done) | assumption | (simp; omega))
  go_wp2
  go_ret
  exact ⟨rfl, by assumption⟩
theorem sr_ftt_ftf (xi xo yi yo : Nat) (xn yn : ByteArray) (HX : Hid (∀ w1 : World, Calls Tryd.prog 37 #[.agg #[.int .i64 (xi : Nat), .string xn, .int .i64 (xo : Nat)]] w1 fun e w' => e = .returned (.tuple #[.bool false, .bool true, .bool true]) ∧ Below w1.heap.size w1 w')) (HY : Hid (∀ w1 : World, Calls Tryd.prog 37 #[.agg #[.int .i64 (yi : Nat), .string yn, .int .i64 (yo : Nat)]] w1 fun e w' => e = .returned (.tuple #[.bool false, .bool true, .bool false]) ∧ Below w1.heap.size w1 w')) (w : World) :
    Calls Tryd.prog 23 #[.agg #[.int .i64 (xi : Nat), .string xn, .int .i64 (xo : Nat)], .agg #[.int .i64 (yi : Nat), .string yn, .int .i64 (yo : Nat)]] w fun e w' => e = .returned (.bool false) ∧ Below w.heap.size w w' := by
  go_enter Tryd.func23, Tryd.ntmps23
  go_wp2_with fail
  refine (HX.out _).mono ?_
  rintro e w1 ⟨rfl, hb1⟩
  have B1 : Below w.heap.size w w1 := (by repeat (with_reducible (first | exact Below.refl _ _ | assumption | apply ba | apply bd | apply bdr | (refine bs ?_ (by first | assumption | (simp; done) | (simp; omega))) | (refine bt ?_ (by assumption)))))
  have hc1_0 := fun o => (bcell hb1).1 (w.heap.size) o (by first | (simp; done) | assumption | (simp; omega))
  have zz1_0 : w.heap.size < w1.heap.size := zz hb1 (by first | (simp; done) | assumption | (simp; omega))
  have hc1_1 := fun o => (bcell hb1).1 (w.heap.size + 1) o (by first | (simp; done) | assumption | (simp; omega))
  have zz1_1 : w.heap.size + 1 < w1.heap.size := zz hb1 (by first | (simp; done) | assumption | (simp; omega))
  go_wp2_with fail
  refine (HY.out _).mono ?_
  rintro e w2 ⟨rfl, hb2⟩
  have B2 : Below w.heap.size w w2 := (by repeat (with_reducible (first | exact Below.refl _ _ | assumption | apply ba | apply bd | apply bdr | (refine bs ?_ (by first | assumption | (simp; done) | (simp; omega))) | (refine bt ?_ (by assumption)))))
  have hc2_0 := fun o => (bcell hb2).1 (w.heap.size) o (by first | (simp; done) | assumption | (simp; omega))
  have zz2_0 : w.heap.size < w2.heap.size := zz hb2 (by first | (simp; done) | assumption | (simp; omega))
  have hc2_1 := fun o => (bcell hb2).1 (w.heap.size + 1) o (by first | (simp; done) | assumption | (simp; omega))
  have zz2_1 : w.heap.size + 1 < w2.heap.size := zz hb2 (by first | (simp; done) | assumption | (simp; omega))
  go_wp2
  go_ret
  exact ⟨rfl, by assumption⟩
theorem sr_ftt_ttf (xi xo yi yo : Nat) (xn yn : ByteArray) (HX : Hid (∀ w1 : World, Calls Tryd.prog 37 #[.agg #[.int .i64 (xi : Nat), .string xn, .int .i64 (xo : Nat)]] w1 fun e w' => e = .returned (.tuple #[.bool false, .bool true, .bool true]) ∧ Below w1.heap.size w1 w')) (HY : Hid (∀ w1 : World, Calls Tryd.prog 37 #[.agg #[.int .i64 (yi : Nat), .string yn, .int .i64 (yo : Nat)]] w1 fun e w' => e = .returned (.tuple #[.bool true, .bool true, .bool false]) ∧ Below w1.heap.size w1 w')) (w : World) :
    Calls Tryd.prog 23 #[.agg #[.int .i64 (xi : Nat), .string xn, .int .i64 (xo : Nat)], .agg #[.int .i64 (yi : Nat), .string yn, .int .i64 (yo : Nat)]] w fun e w' => e = .returned (.bool false) ∧ Below w.heap.size w w' := by
  go_enter Tryd.func23, Tryd.ntmps23
  go_wp2_with fail
  refine (HX.out _).mono ?_
  rintro e w1 ⟨rfl, hb1⟩
  have B1 : Below w.heap.size w w1 := (by repeat (with_reducible (first | exact Below.refl _ _ | assumption | apply ba | apply bd | apply bdr | (refine bs ?_ (by first | assumption | (simp; done) | (simp; omega))) | (refine bt ?_ (by assumption)))))
  have hc1_0 := fun o => (bcell hb1).1 (w.heap.size) o (by first | (simp; done) | assumption | (simp; omega))
  have zz1_0 : w.heap.size < w1.heap.size := zz hb1 (by first | (simp; done) | assumption | (simp; omega))
  have hc1_1 := fun o => (bcell hb1).1 (w.heap.size + 1) o (by first | (simp; done) | assumption | (simp; omega))
  have zz1_1 : w.heap.size + 1 < w1.heap.size := zz hb1 (by first | (simp; done) | assumption | (simp; omega))
  go_wp2_with fail
  refine (HY.out _).mono ?_
  rintro e w2 ⟨rfl, hb2⟩
  have B2 : Below w.heap.size w w2 := (by repeat (with_reducible (first | exact Below.refl _ _ | assumption | apply ba | apply bd | apply bdr | (refine bs ?_ (by first | assumption | (simp; done) | (simp; omega))) | (refine bt ?_ (by assumption)))))
  have hc2_0 := fun o => (bcell hb2).1 (w.heap.size) o (by first | (simp; done) | assumption | (simp; omega))
  have zz2_0 : w.heap.size < w2.heap.size := zz hb2 (by first | (simp; done) | assumption | (simp; omega))
  have hc2_1 := fun o => (bcell hb2).1 (w.heap.size + 1) o (by first | (simp; done) | assumption | (simp; omega))
  have zz2_1 : w.heap.size + 1 < w2.heap.size := zz hb2 (by first | (simp; done) | assumption | (simp; omega))
  go_wp2
  go_ret
  exact ⟨rfl, by assumption⟩
theorem sr_ftt_ftt (xi xo yi yo : Nat) (xn yn : ByteArray) (HX : Hid (∀ w1 : World, Calls Tryd.prog 37 #[.agg #[.int .i64 (xi : Nat), .string xn, .int .i64 (xo : Nat)]] w1 fun e w' => e = .returned (.tuple #[.bool false, .bool true, .bool true]) ∧ Below w1.heap.size w1 w')) (HY : Hid (∀ w1 : World, Calls Tryd.prog 37 #[.agg #[.int .i64 (yi : Nat), .string yn, .int .i64 (yo : Nat)]] w1 fun e w' => e = .returned (.tuple #[.bool false, .bool true, .bool true]) ∧ Below w1.heap.size w1 w')) (h0 : ¬ xi = 0) (r : Bool) (HL : Hid (∀ w1 : World, Calls Tryd.prog 18 #[.agg #[.int .i64 (xi : Nat), .string xn, .int .i64 (xo : Nat)], .agg #[.int .i64 (yi : Nat), .string yn, .int .i64 (yo : Nat)]] w1 fun e w' => e = .returned (.bool r) ∧ Below w1.heap.size w1 w')) (w : World) :
    Calls Tryd.prog 23 #[.agg #[.int .i64 (xi : Nat), .string xn, .int .i64 (xo : Nat)], .agg #[.int .i64 (yi : Nat), .string yn, .int .i64 (yo : Nat)]] w fun e w' => e = .returned (.bool r) ∧ Below w.heap.size w w' := by
  have g0 : (xi = 0) = False := by simpa using h0
  have g0b : ((xi : Int) == 0) = false := by simpa using h0
  go_enter Tryd.func23, Tryd.ntmps23
  go_wp2_with fail
  refine (HX.out _).mono ?_
  rintro e w1 ⟨rfl, hb1⟩
  have B1 : Below w.heap.size w w1 := (by repeat (with_reducible (first | exact Below.refl _ _ | assumption | apply ba | apply bd | apply bdr | (refine bs ?_ (by first | assumption | (simp; done) | (simp; omega))) | (refine bt ?_ (by assumption)))))
  have hc1_0 := fun o => (bcell hb1).1 (w.heap.size) o (by first | (simp; done) | assumption | (simp; omega))
  have zz1_0 : w.heap.size < w1.heap.size := zz hb1 (by first | (simp; done) | assumption | (simp; omega))
  have hc1_1 := fun o => (bcell hb1).1 (w.heap.size + 1) o (by first | (simp; done) | assumption | (simp; omega))
  have zz1_1 : w.heap.size + 1 < w1.heap.size := zz hb1 (by first | (simp; done) | assumption | (simp; omega))
  go_wp2_with fail
  refine (HY.out _).mono ?_
  rintro e w2 ⟨rfl, hb2⟩
  have B2 : Below w.heap.size w w2 := (by repeat (with_reducible (first | exact Below.refl _ _ | assumption | apply ba | apply bd | apply bdr | (refine bs ?_ (by first | assumption | (simp; done) | (simp; omega))) | (refine bt ?_ (by assumption)))))
  have hc2_0 := fun o => (bcell hb2).1 (w.heap.size) o (by first | (simp; done) | assumption | (simp; omega))
  have zz2_0 : w.heap.size < w2.heap.size := zz hb2 (by first | (simp; done) | assumption | (simp; omega))
  have hc2_1 := fun o => (bcell hb2).1 (w.heap.size + 1) o (by first | (simp; done) | assumption | (simp; omega))
  have zz2_1 : w.heap.size + 1 < w2.heap.size := zz hb2 (by first | (simp; done) | assumption | (simp; omega))
  go_wp2_with fail
  refine (HL.out _).mono ?_
  rintro e w3 ⟨rfl, hb3⟩
  have B3 : Below w.heap.size w w3 := (by repeat (with_reducible (first | exact Below.refl _ _ | assumption | apply ba | apply bd | apply bdr | (refine bs ?_ (by first | assumption | (simp; done) | (simp; omega))) | (refine bt ?_ (by assumption)))))
  have hc3_0 := fun o => (bcell hb3).1 (w.heap.size) o (by first | (simp; done) | assumption | (simp; omega))
  have zz3_0 : w.heap.size < w3.heap.size := zz hb3 (by first | (simp; done) | assumption | (simp; omega))
  have hc3_1 := fun o => (bcell hb3).1 (w.heap.size + 1) o (by first | (simp; done) | assumption | (simp; omega))
  have zz3_1 : w.heap.size + 1 < w3.heap.size := zz hb3 (by first | (simp; done) | assumption | (simp; omega))
  go_wp2
  go_ret
  exact ⟨rfl, by assumption⟩
theorem sr_ftt_ttt (xi xo yi yo : Nat) (xn yn : ByteArray) (HX : Hid (∀ w1 : World, Calls Tryd.prog 37 #[.agg #[.int .i64 (xi : Nat), .string xn, .int .i64 (xo : Nat)]] w1 fun e w' => e = .returned (.tuple #[.bool false, .bool true, .bool true]) ∧ Below w1.heap.size w1 w')) (HY : Hid (∀ w1 : World, Calls Tryd.prog 37 #[.agg #[.int .i64 (yi : Nat), .string yn, .int .i64 (yo : Nat)]] w1 fun e w' => e = .returned (.tuple #[.bool true, .bool true, .bool true]) ∧ Below w1.heap.size w1 w')) (h0 : ¬ xi = 0) (r : Bool) (HL : Hid (∀ w1 : World, Calls Tryd.prog 18 #[.agg #[.int .i64 (xi : Nat), .string xn, .int .i64 (xo : Nat)], .agg #[.int .i64 (yi : Nat), .string yn, .int .i64 (yo : Nat)]] w1 fun e w' => e = .returned (.bool r) ∧ Below w1.heap.size w1 w')) (w : World) :
    Calls Tryd.prog 23 #[.agg #[.int .i64 (xi : Nat), .string xn, .int .i64 (xo : Nat)], .agg #[.int .i64 (yi : Nat), .string yn, .int .i64 (yo : Nat)]] w fun e w' => e = .returned (.bool r) ∧ Below w.heap.size w w' := by
  have g0 : (xi = 0) = False := by simpa using h0
  have g0b : ((xi : Int) == 0) = false := by simpa using h0
  go_enter Tryd.func23, Tryd.ntmps23
  go_wp2_with fail
  refine (HX.out _).mono ?_
  rintro e w1 ⟨rfl, hb1⟩
  have B1 : Below w.heap.size w w1 := (by repeat (with_reducible (first | exact Below.refl _ _ | assumption | apply ba | apply bd | apply bdr | (refine bs ?_ (by first | assumption | (simp; done) | (simp; omega))) | (refine bt ?_ (by assumption)))))
  have hc1_0 := fun o => (bcell hb1).1 (w.heap.size) o (by first | (simp; done) | assumption | (simp; omega))
  have zz1_0 : w.heap.size < w1.heap.size := zz hb1 (by first | (simp; done) | assumption | (simp; omega))
  have hc1_1 := fun o => (bcell hb1).1 (w.heap.size + 1) o (by first | (simp; done) | assumption | (simp; omega))
  have zz1_1 : w.heap.size + 1 < w1.heap.size := zz hb1 (by first | (simp; done) | assumption | (simp; omega))
  go_wp2_with fail
  refine (HY.out _).mono ?_
  rintro e w2 ⟨rfl, hb2⟩
  have B2 : Below w.heap.size w w2 := (by repeat (with_reducible (first | exact Below.refl _ _ | assumption | apply ba | apply bd | apply bdr | (refine bs ?_ (by first | assumption | (simp; done) | (simp; omega))) | (refine bt ?_ (by assumption)))))
  have hc2_0 := fun o => (bcell hb2).1 (w.heap.size) o (by first | (simp; done) | assumption | (simp; omega))
  have zz2_0 : w.heap.size < w2.heap.size := zz hb2 (by first | (simp; done) | assumption | (simp; omega))
  have hc2_1 := fun o => (bcell hb2).1 (w.heap.size + 1) o (by first | (simp; done) | assumption | (simp; omega))
  have zz2_1 : w.heap.size + 1 < w2.heap.size := zz hb2 (by first | (simp; done) | assumption | (simp; omega))
  go_wp2_with fail
  refine (HL.out _).mono ?_
  rintro e w3 ⟨rfl, hb3⟩
  have B3 : Below w.heap.size w w3 := (by repeat (with_reducible (first | exact Below.refl _ _ | assumption | apply ba | apply bd | apply bdr | (refine bs ?_ (by first | assumption | (simp; done) | (simp; omega))) | (refine bt ?_ (by assumption)))))
  have hc3_0 := fun o => (bcell hb3).1 (w.heap.size) o (by first | (simp; done) | assumption | (simp; omega))
  have zz3_0 : w.heap.size < w3.heap.size := zz hb3 (by first | (simp; done) | assumption | (simp; omega))
  have hc3_1 := fun o => (bcell hb3).1 (w.heap.size + 1) o (by first | (simp; done) | assumption | (simp; omega))
  have zz3_1 : w.heap.size + 1 < w3.heap.size := zz hb3 (by first | (simp; done) | assumption | (simp; omega))
  go_wp2
  go_ret
  exact ⟨rfl, by assumption⟩
theorem sr_ttt_tff (xi xo yi yo : Nat) (xn yn : ByteArray) (HX : Hid (∀ w1 : World, Calls Tryd.prog 37 #[.agg #[.int .i64 (xi : Nat), .string xn, .int .i64 (xo : Nat)]] w1 fun e w' => e = .returned (.tuple #[.bool true, .bool true, .bool true]) ∧ Below w1.heap.size w1 w')) (HY : Hid (∀ w1 : World, Calls Tryd.prog 37 #[.agg #[.int .i64 (yi : Nat), .string yn, .int .i64 (yo : Nat)]] w1 fun e w' => e = .returned (.tuple #[.bool true, .bool false, .bool false]) ∧ Below w1.heap.size w1 w')) (w : World) :
    Calls Tryd.prog 23 #[.agg #[.int .i64 (xi : Nat), .string xn, .int .i64 (xo : Nat)], .agg #[.int .i64 (yi : Nat), .string yn, .int .i64 (yo : Nat)]] w fun e w' => e = .returned (.bool false) ∧ Below w.heap.size w w' := by
  go_enter Tryd.func23, Tryd.ntmps23
  go_wp2_with fail
  refine (HX.out _).mono ?_
  rintro e w1 ⟨rfl, hb1⟩
  have B1 : Below w.heap.size w w1 := (by repeat (with_reducible (first | exact Below.refl _ _ | assumption | apply ba | apply bd | apply bdr | (refine bs ?_ (by first | assumption | (simp; done) | (simp; omega))) | (refine bt ?_ (by assumption)))))
  have hc1_0 := fun o => (bcell hb1).1 (w.heap.size) o (by first | (simp; done) | assumption | (simp; omega))
  have zz1_0 : w.heap.size < w1.heap.size := zz hb1 (by first | (simp; done) | assumption | (simp; omega))
  have hc1_1 := fun o => (bcell hb1).1 (w.heap.size + 1) o (by first | (simp; done) | assumption | (simp; omega))
  have zz1_1 : w.heap.size + 1 < w1.heap.size := zz hb1 (by first | (simp; done) | assumption | (simp; omega))
  go_wp2_with fail
  refine (HY.out _).mono ?_
  rintro e w2 ⟨rfl, hb2⟩
  have B2 : Below w.heap.size w w2 := (by repeat (with_reducible (first | exact Below.refl _ _ | assumption | apply ba | apply bd | apply bdr | (refine bs ?_ (by first | assumption | (simp; done) | (simp; omega))) | (refine bt ?_ (by assumption)))))
  have hc2_0 := fun o => (bcell hb2).1 (w.heap.size) o (by first | (simp; done) | assumption | (simp; omega))
  have zz2_0 : w.heap.size < w2.heap.size := zz hb2 (by first | (simp; done) | assumption | (simp; omega))
  have hc2_1 := fun o => (bcell hb2).1 (w.heap.size + 1) o (by first | (simp; done) | assumption | (simp; omega))
  have zz2_1 : w.heap.size + 1 < w2.heap.size := zz hb2 (by first | (simp; done) | assumption | (simp; omega))
  go_wp2
  go_ret
  exact ⟨rfl, by assumption⟩
theorem sr_ttt_ftf (xi xo yi yo : Nat) (xn yn : ByteArray) (HX : Hid (∀ w1 : World, Calls Tryd.prog 37 #[.agg #[.int .i64 (xi : Nat), .string xn, .int .i64 (xo : Nat)]] w1 fun e w' => e = .returned (.tuple #[.bool true, .bool true, .bool true]) ∧ Below w1.heap.size w1 w')) (HY : Hid (∀ w1 : World, Calls Tryd.prog 37 #[.agg #[.int .i64 (yi : Nat), .string yn, .int .i64 (yo : Nat)]] w1 fun e w' => e = .returned (.tuple #[.bool false, .bool true, .bool false]) ∧ Below w1.heap.size w1 w')) (w : World) :
    Calls Tryd.prog 23 #[.agg #[.int .i64 (xi : Nat), .string xn, .int .i64 (xo : Nat)], .agg #[.int .i64 (yi : Nat), .string yn, .int .i64 (yo : Nat)]] w fun e w' => e = .returned (.bool false) ∧ Below w.heap.size w w' := by
  go_enter Tryd.func23, Tryd.ntmps23
  go_wp2_with fail
  refine (HX.out _).mono ?_
  rintro e w1 ⟨rfl, hb1⟩
  have B1 : Below w.heap.size w w1 := (by repeat (with_reducible (first | exact Below.refl _ _ | assumption | apply ba | apply bd | apply bdr | (refine bs ?_ (by first | assumption | (simp; done) | (simp; omega))) | (refine bt ?_ (by assumption)))))
  have hc1_0 := fun o => (bcell hb1).1 (w.heap.size) o (by first | (simp; done) | assumption | (simp; omega))
  have zz1_0 : w.heap.size < w1.heap.size := zz hb1 (by first | (simp; done) | assumption | (simp; omega))
  have hc1_1 := fun o => (bcell hb1).1 (w.heap.size + 1) o (by first | (simp; done) | assumption | (simp; omega))
  have zz1_1 : w.heap.size + 1 < w1.heap.size := zz hb1 (by first | (simp; done) | assumption | (simp; omega))
  go_wp2_with fail
  refine (HY.out _).mono ?_
  rintro e w2 ⟨rfl, hb2⟩
  have B2 : Below w.heap.size w w2 := (by repeat (with_reducible (first | exact Below.refl _ _ | assumption | apply ba | apply bd | apply bdr | (refine bs ?_ (by first | assumption | (simp; done) | (simp; omega))) | (refine bt ?_ (by assumption)))))
  have hc2_0 := fun o => (bcell hb2).1 (w.heap.size) o (by first | (simp; done) | assumption | (simp; omega))
  have zz2_0 : w.heap.size < w2.heap.size := zz hb2 (by first | (simp; done) | assumption | (simp; omega))
  have hc2_1 := fun o => (bcell hb2).1 (w.heap.size + 1) o (by first | (simp; done) | assumption | (simp; omega))
  have zz2_1 : w.heap.size + 1 < w2.heap.size := zz hb2 (by first | (simp; done) | assumption | (simp; omega))
  go_wp2
  go_ret
  exact ⟨rfl, by assumption⟩
theorem sr_ttt_ttf (xi xo yi yo : Nat) (xn yn : ByteArray) (HX : Hid (∀ w1 : World, Calls Tryd.prog 37 #[.agg #[.int .i64 (xi : Nat), .string xn, .int .i64 (xo : Nat)]] w1 fun e w' => e = .returned (.tuple #[.bool true, .bool true, .bool true]) ∧ Below w1.heap.size w1 w')) (HY : Hid (∀ w1 : World, Calls Tryd.prog 37 #[.agg #[.int .i64 (yi : Nat), .string yn, .int .i64 (yo : Nat)]] w1 fun e w' => e = .returned (.tuple #[.bool true, .bool true, .bool false]) ∧ Below w1.heap.size w1 w')) (w : World) :
    Calls Tryd.prog 23 #[.agg #[.int .i64 (xi : Nat), .string xn, .int .i64 (xo : Nat)], .agg #[.int .i64 (yi : Nat), .string yn, .int .i64 (yo : Nat)]] w fun e w' => e = .returned (.bool false) ∧ Below w.heap.size w w' := by
  go_enter Tryd.func23, Tryd.ntmps23
  go_wp2_with fail
  refine (HX.out _).mono ?_
  rintro e w1 ⟨rfl, hb1⟩
  have B1 : Below w.heap.size w w1 := (by repeat (with_reducible (first | exact Below.refl _ _ | assumption | apply ba | apply bd | apply bdr | (refine bs ?_ (by first | assumption | (simp; done) | (simp; omega))) | (refine bt ?_ (by assumption)))))
  have hc1_0 := fun o => (bcell hb1).1 (w.heap.size) o (by first | (simp; done) | assumption | (simp; omega))
  have zz1_0 : w.heap.size < w1.heap.size := zz hb1 (by first | (simp; done) | assumption | (simp; omega))
  have hc1_1 := fun o => (bcell hb1).1 (w.heap.size + 1) o (by first | (simp; done) | assumption | (simp; omega))
  have zz1_1 : w.heap.size + 1 < w1.heap.size := zz hb1 (by first | (simp; done) | assumption | (simp; omega))
  go_wp2_with fail
  refine (HY.out _).mono ?_
  rintro e w2 ⟨rfl, hb2⟩
  have B2 : Below w.heap.size w w2 := (by repeat (with_reducible (first | exact Below.refl _ _ | assumption | apply ba | apply bd | apply bdr | (refine bs ?_ (by first | assumption | (simp; done) | (simp; omega))) | (refine bt ?_ (by assumption)))))
  have hc2_0 := fun o => (bcell hb2).1 (w.heap.size) o (by first | (simp; done) | assumption | (simp; omega))
  have zz2_0 : w.heap.size < w2.heap.size := zz hb2 (by first | (simp; done) | assumption | (simp; omega))
  have hc2_1 := fun o => (bcell hb2).1 (w.heap.size + 1) o (by first | (simp; done) | assumption | (simp; omega))
  have zz2_1 : w.heap.size + 1 < w2.heap.size := zz hb2 (by first | (simp; done) | assumption | (simp; omega))
  go_wp2
  go_ret
  exact ⟨rfl, by assumption⟩
theorem sr_ttt_ftt (xi xo yi yo : Nat) (xn yn : ByteArray) (HX : Hid (∀ w1 : World, Calls Tryd.prog 37 #[.agg #[.int .i64 (xi : Nat), .string xn, .int .i64 (xo : Nat)]] w1 fun e w' => e = .returned (.tuple #[.bool true, .bool true, .bool true]) ∧ Below w1.heap.size w1 w')) (HY : Hid (∀ w1 : World, Calls Tryd.prog 37 #[.agg #[.int .i64 (yi : Nat), .string yn, .int .i64 (yo : Nat)]] w1 fun e w' => e = .returned (.tuple #[.bool false, .bool true, .bool true]) ∧ Below w1.heap.size w1 w')) (w : World) :
    Calls Tryd.prog 23 #[.agg #[.int .i64 (xi : Nat), .string xn, .int .i64 (xo : Nat)], .agg #[.int .i64 (yi : Nat), .string yn, .int .i64 (yo : Nat)]] w fun e w' => e = .returned (.bool false) ∧ Below w.heap.size w w' := by
  go_enter Tryd.func23, Tryd.ntmps23
  go_wp2_with fail
  refine (HX.out _).mono ?_
  rintro e w1 ⟨rfl, hb1⟩
  have B1 : Below w.heap.size w w1 := (by repeat (with_reducible (first | exact Below.refl _ _ | assumption | apply ba | apply bd | apply bdr | (refine bs ?_ (by first | assumption | (simp; done) | (simp; omega))) | (refine bt ?_ (by assumption)))))
  have hc1_0 := fun o => (bcell hb1).1 (w.heap.size) o (by first | (simp; done) | assumption | (simp; omega))
  have zz1_0 : w.heap.size < w1.heap.size := zz hb1 (by first | (simp; done) | assumption | (simp; omega))
  have hc1_1 := fun o => (bcell hb1).1 (w.heap.size + 1) o (by first | (simp; done) | assumption | (simp; omega))
  have zz1_1 : w.heap.size + 1 < w1.heap.size := zz hb1 (by first | (simp; done) | assumption | (simp; omega))
  go_wp2_with fail
  refine (HY.out _).mono ?_
  rintro e w2 ⟨rfl, hb2⟩
  have B2 : Below w.heap.size w w2 := (by repeat (with_reducible (first | exact Below.refl _ _ | assumption | apply ba | apply bd | apply bdr | (refine bs ?_ (by first | assumption | (simp; done) | (simp; omega))) | (refine bt ?_ (by assumption)))))
  have hc2_0 := fun o => (bcell hb2).1 (w.heap.size) o (by first | (simp; done) | assumption | (simp; omega))
  have zz2_0 : w.heap.size < w2.heap.size := zz hb2 (by first | (simp; done) | assumption | (simp; omega))
  have hc2_1 := fun o => (bcell hb2).1 (w.heap.size + 1) o (by first | (simp; done) | assumption | (simp; omega))
  have zz2_1 : w.heap.size + 1 < w2.heap.size := zz hb2 (by first | (simp; done) | assumption | (simp; omega))
  go_wp2
  go_ret
  exact ⟨rfl, by assumption⟩
theorem sr_ttt_ttt (xi xo yi yo : Nat) (xn yn : ByteArray) (HX : Hid (∀ w1 : World, Calls Tryd.prog 37 #[.agg #[.int .i64 (xi : Nat), .string xn, .int .i64 (xo : Nat)]] w1 fun e w' => e = .returned (.tuple #[.bool true, .bool true, .bool true]) ∧ Below w1.heap.size w1 w')) (HY : Hid (∀ w1 : World, Calls Tryd.prog 37 #[.agg #[.int .i64 (yi : Nat), .string yn, .int .i64 (yo : Nat)]] w1 fun e w' => e = .returned (.tuple #[.bool true, .bool true, .bool true]) ∧ Below w1.heap.size w1 w')) (h0 : ¬ xi = 0) (r : Bool) (HL : Hid (∀ w1 : World, Calls Tryd.prog 18 #[.agg #[.int .i64 (xi : Nat), .string xn, .int .i64 (xo : Nat)], .agg #[.int .i64 (yi : Nat), .string yn, .int .i64 (yo : Nat)]] w1 fun e w' => e = .returned (.bool r) ∧ Below w1.heap.size w1 w')) (w : World) :
    Calls Tryd.prog 23 #[.agg #[.int .i64 (xi : Nat), .string xn, .int .i64 (xo : Nat)], .agg #[.int .i64 (yi : Nat), .string yn, .int .i64 (yo : Nat)]] w fun e w' => e = .returned (.bool r) ∧ Below w.heap.size w w' := by
  have g0 : (xi = 0) = False := by simpa using h0
  have g0b : ((xi : Int) == 0) = false := by simpa using h0
  go_enter Tryd.func23, Tryd.ntmps23
  go_wp2_with fail
  refine (HX.out _).mono ?_
  rintro e w1 ⟨rfl, hb1⟩
  have B1 : Below w.heap.size w w1 := (by repeat (with_reducible (first | exact Below.refl _ _ | assumption | apply ba | apply bd | apply bdr | (refine bs ?_ (by first | assumption | (simp; done) | (simp; omega))) | (refine bt ?_ (by assumption)))))
  have hc1_0 := fun o => (bcell hb1).1 (w.heap.size) o (by first | (simp; done) | assumption | (simp; omega))
  have zz1_0 : w.heap.size < w1.heap.size := zz hb1 (by first | (simp; done) | assumption | (simp; omega))
  have hc1_1 := fun o => (bcell hb1).1 (w.heap.size + 1) o (by first | (simp; done) | assumption | (simp; omega))
  have zz1_1 : w.heap.size + 1 < w1.heap.size := zz hb1 (by first | (simp; done) | assumption | (simp; omega))
  go_wp2_with fail
  refine (HY.out _).mono ?_
  rintro e w2 ⟨rfl, hb2⟩
  have B2 : Below w.heap.size w w2 := (by repeat (with_reducible (first | exact Below.refl _ _ | assumption | apply ba | apply bd | apply bdr | (refine bs ?_ (by first | assumption | (simp; done) | (simp; omega))) | (refine bt ?_ (by assumption)))))
  have hc2_0 := fun o => (bcell hb2).1 (w.heap.size) o (by first | (simp; done) | assumption | (simp; omega))
  have zz2_0 : w.heap.size < w2.heap.size := zz hb2 (by first | (simp; done) | assumption | (simp; omega))
  have hc2_1 := fun o => (bcell hb2).1 (w.heap.size + 1) o (by first | (simp; done) | assumption | (simp; omega))
  have zz2_1 : w.heap.size + 1 < w2.heap.size := zz hb2 (by first | (simp; done) | assumption | (simp; omega))
  go_wp2_with fail
  refine (HL.out _).mono ?_
  rintro e w3 ⟨rfl, hb3⟩
  have B3 : Below w.heap.size w w3 := (by repeat (with_reducible (first | exact Below.refl _ _ | assumption | apply ba | apply bd | apply bdr | (refine bs ?_ (by first | assumption | (simp; done) | (simp; omega))) | (refine bt ?_ (by assumption)))))
  have hc3_0 := fun o => (bcell hb3).1 (w.heap.size) o (by first | (simp; done) | assumption | (simp; omega))
  have zz3_0 : w.heap.size < w3.heap.size := zz hb3 (by first | (simp; done) | assumption | (simp; omega))
  have hc3_1 := fun o => (bcell hb3).1 (w.heap.size + 1) o (by first | (simp; done) | assumption | (simp; omega))
  have zz3_1 : w.heap.size + 1 < w3.heap.size := zz hb3 (by first | (simp; done) | assumption | (simp; omega))
  go_wp2
  go_ret
  exact ⟨rfl, by assumption⟩
theorem sub_fin : ∀ (z y : Bool) (o p : Fin 4), inC (cz z o.1) (cz y p.1) = !(((cntR z o.1).1 && !(cntR y p.1).1) || ((cntR z o.1).2.1 && !(cntR y p.1).2.1) || ((cntR z o.1).2.2 && !(cntR y p.1).2.2)) := by decide
theorem sub_ref (x y : TT) (hx : GT x) (hy : GT y) (w : World) : Calls Tryd.prog 23 #[.agg #[.int .i64 (x.k.i : Nat), .string (ba' x.k.n), .int .i64 (x.o : Nat)], .agg #[.int .i64 (y.k.i : Nat), .string (ba' y.k.n), .int .i64 (y.o : Nat)]] w fun e w' => e = .returned (.bool (subT x y)) ∧ Below w.heap.size w w' := by
  have HX := Lib.hid (fun w1 => counts_t x hx w1)
  have HY := Lib.hid (fun w1 => counts_t y hy w1)
  have HL := Lib.hid (fun w1 => lies_ref x y hx hy w1)
  have h5 := bR_five x hx
  have h6 := bR_five y hy
  have hz : bR x = (true, false, false) ↔ x.k.i = 0 := by
    unfold bR zT
    by_cases h : x.k.i = 0
    · simp [h, cntR]
    · simp [h, cntR]
  have hs : inC (cT x) (cT y) = !(((bR x).1 && !(bR y).1) || ((bR x).2.1 && !(bR y).2.1) || ((bR x).2.2 && !(bR y).2.2)) := sub_fin (zT x) (zT y) (f4 hx.2) (f4 hy.2)
  unfold subT
  rw [hs]
  rcases h5 with h5 | h5 | h5 | h5 | h5
  · have h0 := hz.1 h5
    have hl : lieB x.k y.k = true := by rw [lieB, if_pos h0]
    rw [hl, h5]
    rw [h5, h0] at HX
    rw [h0]
    rcases h6 with h6 | h6 | h6 | h6 | h6
    · rw [h6] at HY ⊢; exact sr_tff_tff _ _ _ _ _ HX HY w
    · rw [h6] at HY ⊢; exact sr_tff_ftf _ _ _ _ _ HX HY w
    · rw [h6] at HY ⊢; exact sr_tff_ttf _ _ _ _ _ HX HY w
    · rw [h6] at HY ⊢; exact sr_tff_ftt _ _ _ _ _ HX HY w
    · rw [h6] at HY ⊢; exact sr_tff_ttt _ _ _ _ _ HX HY w
  · have h0 : ¬ x.k.i = 0 := fun h => by have := hz.2 h; rw [h5] at this; simp at this
    rw [h5]
    rw [h5] at HX
    rcases h6 with h6 | h6 | h6 | h6 | h6
    · rw [h6] at HY ⊢; exact sr_ftf_tff _ _ _ _ _ _ HX HY w
    · rw [h6] at HY ⊢; exact sr_ftf_ftf _ _ _ _ _ _ HX HY h0 _ HL w
    · rw [h6] at HY ⊢; exact sr_ftf_ttf _ _ _ _ _ _ HX HY h0 _ HL w
    · rw [h6] at HY ⊢; exact sr_ftf_ftt _ _ _ _ _ _ HX HY h0 _ HL w
    · rw [h6] at HY ⊢; exact sr_ftf_ttt _ _ _ _ _ _ HX HY h0 _ HL w
  · have h0 : ¬ x.k.i = 0 := fun h => by have := hz.2 h; rw [h5] at this; simp at this
    rw [h5]
    rw [h5] at HX
    rcases h6 with h6 | h6 | h6 | h6 | h6
    · rw [h6] at HY ⊢; exact sr_ttf_tff _ _ _ _ _ _ HX HY w
    · rw [h6] at HY ⊢; exact sr_ttf_ftf _ _ _ _ _ _ HX HY w
    · rw [h6] at HY ⊢; exact sr_ttf_ttf _ _ _ _ _ _ HX HY h0 _ HL w
    · rw [h6] at HY ⊢; exact sr_ttf_ftt _ _ _ _ _ _ HX HY w
    · rw [h6] at HY ⊢; exact sr_ttf_ttt _ _ _ _ _ _ HX HY h0 _ HL w
  · have h0 : ¬ x.k.i = 0 := fun h => by have := hz.2 h; rw [h5] at this; simp at this
    rw [h5]
    rw [h5] at HX
    rcases h6 with h6 | h6 | h6 | h6 | h6
    · rw [h6] at HY ⊢; exact sr_ftt_tff _ _ _ _ _ _ HX HY w
    · rw [h6] at HY ⊢; exact sr_ftt_ftf _ _ _ _ _ _ HX HY w
    · rw [h6] at HY ⊢; exact sr_ftt_ttf _ _ _ _ _ _ HX HY w
    · rw [h6] at HY ⊢; exact sr_ftt_ftt _ _ _ _ _ _ HX HY h0 _ HL w
    · rw [h6] at HY ⊢; exact sr_ftt_ttt _ _ _ _ _ _ HX HY h0 _ HL w
  · have h0 : ¬ x.k.i = 0 := fun h => by have := hz.2 h; rw [h5] at this; simp at this
    rw [h5]
    rw [h5] at HX
    rcases h6 with h6 | h6 | h6 | h6 | h6
    · rw [h6] at HY ⊢; exact sr_ttt_tff _ _ _ _ _ _ HX HY w
    · rw [h6] at HY ⊢; exact sr_ttt_ftf _ _ _ _ _ _ HX HY w
    · rw [h6] at HY ⊢; exact sr_ttt_ttf _ _ _ _ _ _ HX HY w
    · rw [h6] at HY ⊢; exact sr_ttt_ftt _ _ _ _ _ _ HX HY w
    · rw [h6] at HY ⊢; exact sr_ttt_ttt _ _ _ _ _ _ HX HY h0 _ HL w
end Go.Proofs.YtjpopmgnhgancaaDoor
