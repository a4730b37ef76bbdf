/- The statement DecForms: texts. No condition beyond what the theorems state. -/
import Derived.Test.YtmggffhecopgiaaDoorFormsRights
import Derived.Test.YtmggffhecopgiaaDoorFormsFit
namespace Go.Proofs
open Go.Shelf Go.RowKit Go.Proofs.Wide Go.Proofs.Dig
noncomputable def fbody : Code := Tryd.f3.body.getD .skip
theorem tabIs_below {P : Program} {w w' : World} {name : String} {k : IntKind} {zs : List Int} (h : Lib.TabIs P w name k zs) (hb : Below w.heap.size w w') : Lib.TabIs P w' name k zs := by
  unfold Lib.TabIs World.var? at *
  cases hg : P.globalNamed name with
  | none => simp [hg] at h
  | some g =>
    simp only [hg, Option.bind_some] at h ⊢
    have hlt : g < w.heap.size := by
      rcases Nat.lt_or_ge g w.heap.size with h' | h'
      · exact h'
      · rw [Array.getElem?_eq_none h'] at h; simp at h
    rw [hb.block g hlt]
    exact h
/-- What the law asks of a right number's text. -/
def FmtG (w0 : World) (n k : Int) (t : ByteArray) : Prop := ∀ w : World, Below w0.heap.size w0 w → Calls Tryd.prog 16 #[.agg #[.int .i64 n, .int .i64 k]] w fun e w' => e = .returned (.string t) ∧ Below w.heap.size w w'
set_option maxRecDepth 100000 in
set_option maxHeartbeats 8000000 in
theorem forms_tail (n k : Int) (s : ByteArray) (pn pk pe : Int) (rb : Bool) (c0 c3 c4 c5 c6 c7 c8 c9 c10 c11 c12 c13 c14 c15 c16 c17 c18 c19 c20 c21 c22 c23 c24 c25 c26 c27 c28 c29 c30 c31 c32 c33 c34 c35 c36 c37 c38 c39 c40 c41 c42 c43 c44 c45 c46 c47 c48 c49 c50 c51 c52 c53 c54 c55 c56 c57 c58 c59 c60 c61 c62 c63 c64 c65 c66 c67 c68 c69 c70 c71 c72 c73 c74 c75 c76 c77 c78 c79 c80 c81 c82 c83 c84 c85 c86 c87 c88 c89 c90 c91 c92 c93 c94 c95 c96 c97 c98 c99 c100 c101 c102 c103 c104 c105 c106 c107 c108 c109 c110 c111 c112 c113 c114 c115 c116 c117 c118 c119 c120 c121 c122 c123 c124 c125 c126 c127 c128 c129 c130 c131 c132 c133 c134 c135 c136 c137 c138 c139 c140 c141 c142 c143 c144 c145 c146 c147 c148 c149 c150 c151 c152 c153 : Value) (w0 W : World) (hb : Below w0.heap.size w0 W) (A0 : Own W w0.heap.size (.int .i64 n) (.int .i64 k))
    (GP : Hid (Gives 14 #[.string s] (.tuple #[.agg #[.int .i64 pn, .int .i64 pk], .int .i64 pe]))) (GR : Hid (Gives 15 #[.string s] (.tuple #[.int .i64 pn, .int .i64 pk, .int .i64 pe])))
    (R : Hid (Gives 10 #[.agg #[.int .i64 n, .int .i64 k]] (.bool rb)))
    (HT : rb = false ∨ (rb = true ∧ ∃ t : ByteArray, Hid (FmtG w0 n k t) ∧ Hid (Gives 14 #[.string t] (.tuple #[.agg #[.int .i64 n, .int .i64 k], .int .i64 0])) ∧ Hid (Gives 17 #[.int .i64 n, .int .i64 k] (.string t))))
    (K : Act → World → Prop) (hK : ∀ a w, Code.wp Tryd.prog (skipn 6 fbody) (bodyPost Tryd.prog Tryd.f3 fun e w' => e = .returned (.bool true) ∧ Below w0.heap.size w0 w') a w → K a w) :
    Code.wp Tryd.prog ((Tryd.f3.body.bind (regionOf 12)).getD .skip) (Exit.then K (bodyPost Tryd.prog Tryd.f3 fun e w' => e = .returned (.bool true) ∧ Below w0.heap.size w0 w')) { tmps := #[c0, .string s, .pointer (some ⟨w0.heap.size, 0, none⟩), c3, c4, c5, c6, c7, c8, c9, c10, c11, c12, c13, c14, c15, c16, c17, c18, c19, c20, c21, c22, c23, c24, c25, c26, c27, c28, c29, c30, c31, c32, c33, c34, c35, c36, c37, c38, c39, c40, c41, c42, c43, c44, c45, c46, c47, c48, c49, c50, c51, c52, c53, c54, c55, c56, c57, c58, c59, c60, c61, c62, c63, c64, c65, c66, c67, c68, c69, c70, c71, c72, c73, c74, c75, c76, c77, c78, c79, c80, c81, c82, c83, c84, c85, c86, c87, c88, c89, c90, c91, c92, c93, c94, c95, c96, c97, c98, c99, c100, c101, c102, c103, c104, c105, c106, c107, c108, c109, c110, c111, c112, c113, c114, c115, c116, c117, c118, c119, c120, c121, c122, c123, c124, c125, c126, c127, c128, c129, c130, c131, c132, c133, c134, c135, c136, c137, c138, c139, c140, c141, c142, c143, c144, c145, c146, c147, c148, c149, c150, c151, c152, c153], defers := [] } W := by
  have HH := Lib.hid HT
  clear HT
  conv => arg 2; whnf
  conv at hK => enter [a, w, 1, 2]; whnf
  go_upto_region 16 with (first
    | (go_at_call 14; refine (GP.out.call _).mono ?_; rintro e w1 ⟨rfl, hb1⟩; have A1 := A0.call hb1; have B1 := bt hb hb1)
    | (go_at_call 15; refine (GR.out.call _).mono ?_; rintro e w2 ⟨rfl, hb2⟩; have A2 := (A1.alloc _).call hb2; have P2 := (Own.new_at rfl : Own (w1.alloc (.cells #[.int .i64 pn, .int .i64 pk] 23)) w1.heap.size (.int .i64 pn) (.int .i64 pk)).call hb2; have B2 := bt (ba B1) hb2; obtain ⟨_, _, _, _⟩ := id P2; obtain ⟨_, _, _, _⟩ := id A2))
  rcases HH.out with rfl | ⟨rfl, t, HF, HB, HX⟩
  · go_wp2_with (go_at_call 10; refine (R.out.call _).mono ?_; rintro e w3 ⟨rfl, hb3⟩)
    go_ret
    exact ⟨rfl, bt B2 hb3⟩
  · go_wp2_with (first
      | (go_at_call 10; refine (R.out.call _).mono ?_; rintro e w3 ⟨rfl, hb3⟩; have A3 := A2.call hb3; have B3 := bt B2 hb3; clear P2; obtain ⟨_, _, _, _⟩ := id A3)
      | (go_at_call 16; refine (HF.out _ B3).mono ?_; rintro e w4 ⟨rfl, hb4⟩; have A4 := A3.call hb4; have B4 := bt B3 hb4)
      | (go_at_call 14; refine (HB.out.call _).mono ?_; rintro e w5 ⟨rfl, hb5⟩; have A5 := A4.call hb5; have B5 := bt B4 hb5; have a5 := A5.lt; obtain ⟨_, _, _, _⟩ := id A5)
      | (go_at_call 17; refine (HX.out.call _).mono ?_; rintro e w6 ⟨rfl, hb6⟩; have A6 := (A5.alloc _).call hb6; have P6 := (Own.new_at rfl : Own (w5.alloc (.cells #[.int .i64 n, .int .i64 k] 23)) w5.heap.size (.int .i64 n) (.int .i64 k)).call hb6; have B6 := bt (ba B5) hb6; obtain ⟨_, _, _, _⟩ := id P6; obtain ⟨_, _, _, _⟩ := id A6))
    go_ret
    exact ⟨by simp, B6⟩
end Go.Proofs
