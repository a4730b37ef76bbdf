/- The statement DecRounds of a right number. No condition beyond what the theorems state. -/
import Derived.Test.YtmggffhecopgiaaDoorRoundsThree
import Derived.Test.YtmggffhecopgiaaDoorRoundsFour
import Derived.Test.YtmggffhecopgiaaDoorRoundsMid
namespace Go.Proofs
open Go.Shelf Go.RowKit Go.Proofs.Wide

set_option maxRecDepth 100000 in
set_option maxHeartbeats 8000000 in
theorem rounds_core (n k q c r y1 y2 an ak bn bk y : Int) (L : List (Int × Int)) (hI : ∀ p ∈ L, InI p.1 ∧ InI p.2) (h5 : L.length ≤ 500) (gg : Option Addr) (cap : Nat) (bb : Bool) (w0 : World)
    (hr : Reads w0 w0.heap.size 2 gg L.length (rowL L)) (W : Hid (Gives 8 #[] (.bool true))) (R1 : Hid (Gives 10 #[.agg #[.int .i64 n, .int .i64 k]] (.bool true)))
    (Hf : Hid (Gives 27 #[.agg #[.int .i64 n, .int .i64 k]] (.agg #[.int .i64 q, .int .i64 0]))) (Hc : Hid (Gives 28 #[.agg #[.int .i64 n, .int .i64 k]] (.agg #[.int .i64 c, .int .i64 0]))) (Hr : Hid (Gives 29 #[.agg #[.int .i64 n, .int .i64 k]] (.agg #[.int .i64 r, .int .i64 0])))
    (K1 : Hid (Gives 25 #[.agg #[.int .i64 q, .int .i64 0], .agg #[.int .i64 n, .int .i64 k]] (.int .i64 y1))) (K2 : Hid (Gives 25 #[.agg #[.int .i64 c, .int .i64 0], .agg #[.int .i64 n, .int .i64 k]] (.int .i64 y2))) (hx1 : decide (0 < y1) = false) (hx2 : decide (y2 < 0) = false)
    (hcq : IntKind.i64.wrap (c - q) = c - q) (hcq1 : decide (1 < c - q) = false) (hcq2 : decide (c < q) = false) (HBB : Hid ((c = q ∧ k = 0 ∧ bb = true) ∨ (¬ c = q ∧ (k == 0) = false ∧ bb = false)))
    (S1 : Hid (Gives 19 #[.agg #[.int .i64 n, .int .i64 k], .agg #[.int .i64 q, .int .i64 0]] (.tuple #[.agg #[.int .i64 an, .int .i64 ak], .int .i64 0]))) (S2 : Hid (Gives 19 #[.agg #[.int .i64 c, .int .i64 0], .agg #[.int .i64 n, .int .i64 k]] (.tuple #[.agg #[.int .i64 bn, .int .i64 bk], .int .i64 0])))
    (K3 : Hid (Gives 25 #[.agg #[.int .i64 an, .int .i64 ak], .agg #[.int .i64 bn, .int .i64 bk]] (.int .i64 y))) (hw : (0 ≤ y ∧ c = r) ∨ (¬ 0 ≤ y ∧ q = r)) :
    Calls Tryd.prog 6 #[.agg #[.int .i64 n, .int .i64 k], .slice gg L.length cap] w0 fun e w' => e = .returned (.bool true) ∧ Below w0.heap.size w0 w' := by
  have HI := Lib.hid hI; have HR := Lib.hid hr; have H1 := Lib.hid hx1; have H2 := Lib.hid hx2; have H3 := Lib.hid hcq; have H4 := Lib.hid hcq1; have H5 := Lib.hid hcq2; have HW := Lib.hid hw
  clear hI hr hx1 hx2 hcq hcq1 hcq2 hw
  have hl5 : decide ((500 : Int) < (L.length : Int)) = false := by simp; omega
  go_enter Tryd.func6, Tryd.ntmps6
  go_upto_region 3 with (first
    | (go_at_call 8; refine (W.out.call _).mono ?_; rintro e w1 ⟨rfl, hb1⟩; have A1 : Own w1 w0.heap.size (.int .i64 n) (.int .i64 k) := (Own.new_at (by simp)).call hb1; obtain ⟨_, _, _, _⟩ := id A1)
    | (go_at_call 10; refine (R1.out.call _).mono ?_; rintro e w2 ⟨rfl, hb2⟩; have A2 := A1.call hb2))
  refine region3 n k q c r _ _ _ _ _ _ _ _ _ _ _ _ _ _ _ _ _ _ _ _ _ _ _ _ _ _ _ _ _ _ _ _ _ _ _ _ _ _ _ _ _ _ _ _ _ _ _ _ _ _ _ _ _ _ _ _ _ _ _ _ _ _ _ _ _ _ _ _ _ _ _ _ _ _ _ _ _ _ _ _ _ _ _ _ _ _ _ _ _ _ _ _ _ _ _ _ _ _ _ _ _ _ _ _ _ _ _ _ _ _ _ _ _ _ _ _ _ _ _ _ _ _ _ _ _ _ _ _ _ _ _ _ _ _ _ _ _ _ _ _ _ _ _ _ _ _ _ _ _ _ _ _ _ _ _ _ _ _ _ _ _ _ _ _ w0 w2 _ (bt (bt (ba (Below.refl _ _)) hb1) hb2) A2 Hf Hc Hr ?_
  clear A1 A2 hb1 hb2
  intro w3 g5 g6 g7 A3 X3 Y3 Z3 B3
  go_upto_region 4 with fail
  refine region4 n k q c r y1 y2 bb g5 g6 g7 _ _ _ _ _ _ _ _ _ _ _ _ _ _ _ _ _ _ _ _ _ _ _ _ _ _ _ _ _ _ _ _ _ _ _ _ _ _ _ _ _ _ _ _ _ _ _ _ _ _ _ _ _ _ _ _ _ _ _ _ _ _ _ _ _ _ _ _ _ _ _ _ _ _ _ _ _ _ _ _ _ _ _ _ _ _ _ _ _ _ _ _ _ _ _ _ _ _ _ _ _ _ _ _ _ _ _ _ _ _ _ _ _ _ _ _ _ _ _ _ _ _ _ _ _ _ _ _ _ _ _ _ _ _ _ _ _ _ _ _ _ _ _ _ _ _ _ _ _ _ _ _ _ _ _ _ _ _ _ _ _ w0 w3 _ B3 A3 X3 Y3 Z3 K1 K2 H1.out H2.out H3.out H4.out H5.out HBB ?_
  clear A3 X3 Y3 Z3 B3
  intro w4 A4 X4 Y4 Z4 B4
  go_upto_region 6 with fail
  refine rounds_mid n k q c r an ak bn bk y L HI.out h5 gg cap g5 g6 g7 _ _ _ _ _ _ _ _ _ _ _ _ _ _ _ _ _ _ _ _ _ _ _ _ _ _ _ _ _ _ _ _ _ _ _ _ _ _ _ _ _ _ _ _ _ _ _ _ _ _ _ _ _ _ _ _ _ _ _ _ _ _ _ _ _ _ _ _ _ _ _ _ _ _ _ _ _ _ _ _ _ _ _ _ _ _ _ _ _ _ _ _ _ _ _ _ _ _ _ _ _ _ _ _ _ _ _ _ _ _ _ _ _ _ _ _ _ _ _ _ _ _ _ _ _ _ _ _ _ _ _ _ _ _ _ _ _ _ _ _ _ _ _ _ _ _ _ _ _ _ _ _ _ _ _ _ _ _ _ _ w0 w4 HR.out B4 A4 X4 Y4 Z4 S1 S2 K3 (HW.out.elim (fun h => .inl h) fun h => .inr ⟨by omega, h.2⟩) _ ?_
  assumption
end Go.Proofs
