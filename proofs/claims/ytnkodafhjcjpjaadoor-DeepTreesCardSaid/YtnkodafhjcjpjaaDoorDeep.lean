/- Package deep: rows of kids; two trees. No condition beyond what the theorems state. -/
import Derived.Test.YtnkodafhjcjpjaaDoorPairs
import Derived.Test.YtnkodafhjcjpjaaDoorTrees
import Derived.Laws.EntriesVeiled
namespace Go.Proofs.YtnkodafhjcjpjaaDoor
open Go.RowKit Go.Lib
set_option maxRecDepth 100000
set_option maxHeartbeats 8000000
def fn (fb : Nat) : Value := .func (.func 13) #[] #[.pointer (some ⟨fb, 0, none⟩)]
theorem read_below {w w' : World} {p : Addr} {v : Value} (h : w.cell? p = some v) (hp : p.block < w.heap.size) (hb : Below w.heap.size w w') : w'.cell? p = some v := (hb.cell hp).trans h
def Kid3I (W0 : World) (fb n c m d : Nat) (aa bb : Addr) (φ : Prop) (x0 x1 x2 x3 x4 y0 y1 y2 y3 y4 c3 c4 c5 c6 c7 c8 c9 c10 c11 c12 c13 c14 c15 c16 c17 c18 c28 c29 c30 c31 c32 c33 c34 c35 c36 c37 c38 : Value) (listed : Array Bool) (A : Act) (w : World) : Prop := ∃ (s19 s20 s21 s22 s23 s24 s25 s26 s27 : Value), A = { tmps := #[.slice (some aa) n c, .slice (some bb) m d, fn fb, c3, c4, c5, c6, c7, c8, c9, c10, c11, c12, c13, c14, c15, c16, c17, c18, s19, s20, s21, s22, s23, s24, s25, s26, s27, c28, c29, c30, c31, c32, c33, c34, c35, c36, c37, c38], defers := [] } ∧
  (listed.getD 0 false = true → s19 = fn fb) ∧
  (listed.getD 1 false = true → s20 = .slice (some aa) n c) ∧
  (listed.getD 2 false = true → s21 = .pointer (some aa)) ∧
  (listed.getD 3 false = true → s22 = .agg #[x0, x1, x2, x3, x4]) ∧
  (listed.getD 4 false = true → s23 = .slice (some bb) m d) ∧
  (listed.getD 5 false = true → s24 = .pointer (some bb)) ∧
  (listed.getD 6 false = true → s25 = .agg #[y0, y1, y2, y3, y4]) ∧
  (listed.getD 7 false = true → ∃ r, s26 = .bool r ∧ (r = true ↔ φ)) ∧
  (listed.getD 8 false = true → ∃ r, s26 = .bool r ∧ s27 = .bool (!r) ∧ (r = true ↔ φ)) ∧
  Below W0.heap.size W0 w ∧
  (listed.getD 8 false = true → listed.getD 7 false = true)
set_option maxHeartbeats 16000000 in
theorem Kid3_region (W : World) (fb n c m d : Nat) (aa bb : Addr) (φ : Prop) (x0 x1 x2 x3 x4 y0 y1 y2 y3 y4 c3 c4 c5 c6 c7 c8 c9 c10 c11 c12 c13 c14 c15 c16 c17 c18 c28 c29 c30 c31 c32 c33 c34 c35 c36 c37 c38 : Value) (z19 z20 z21 z22 z23 z24 z25 z26 z27 : Value) (Q : Exit → Act → World → Prop) (hn : 0 < n) (hm : 0 < m) (_hnc : n ≤ c) (_hmd : m ≤ d) (_hc : c ≤ maxLen) (_hd : d ≤ maxLen) (ha : aa.block < W.heap.size) (hb : bb.block < W.heap.size)
    (ka0 : W.cell? aa = some x0) (kb0 : W.cell? bb = some y0)
    (ka1 : W.cell? ⟨aa.block, aa.off + 1, none⟩ = some x1) (kb1 : W.cell? ⟨bb.block, bb.off + 1, none⟩ = some y1)
    (ka2 : W.cell? ⟨aa.block, aa.off + 2, none⟩ = some x2) (kb2 : W.cell? ⟨bb.block, bb.off + 2, none⟩ = some y2)
    (ka3 : W.cell? ⟨aa.block, aa.off + 3, none⟩ = some x3) (kb3 : W.cell? ⟨bb.block, bb.off + 3, none⟩ = some y3)
    (ka4 : W.cell? ⟨aa.block, aa.off + 4, none⟩ = some x4) (kb4 : W.cell? ⟨bb.block, bb.off + 4, none⟩ = some y4)
    (hS : ∀ w1, Below W.heap.size W w1 → Calls Tryd.prog 13 #[.agg #[x0, x1, x2, x3, x4], .agg #[y0, y1, y2, y3, y4], .pointer (some ⟨fb, 0, none⟩)] w1 fun e w' => ∃ r, e = .returned (.bool r) ∧ (r = true ↔ φ) ∧ Below w1.heap.size w1 w')
    (hQ : ∀ r w', (r = true ↔ φ) → Below W.heap.size W w' → Q .normal { tmps := #[.slice (some aa) n c, .slice (some bb) m d, fn fb, c3, c4, c5, c6, c7, c8, c9, c10, c11, c12, c13, c14, c15, c16, c17, c18, fn fb, .slice (some aa) n c, .pointer (some aa), .agg #[x0, x1, x2, x3, x4], .slice (some bb) m d, .pointer (some bb), .agg #[y0, y1, y2, y3, y4], .bool r, .bool (!r), c28, c29, c30, c31, c32, c33, c34, c35, c36, c37, c38], defers := [] } w') :
    Code.wp Tryd.prog ((Tryd.f14.body.bind (regionOf 3)).getD .skip) Q { tmps := #[.slice (some aa) n c, .slice (some bb) m d, fn fb, c3, c4, c5, c6, c7, c8, c9, c10, c11, c12, c13, c14, c15, c16, c17, c18, z19, z20, z21, z22, z23, z24, z25, z26, z27, c28, c29, c30, c31, c32, c33, c34, c35, c36, c37, c38], defers := [] } W := by
  have HS := Lib.hid hS
  clear hS
  have gn : ¬ ((n : Int) ≤ 0) := by omega
  have gm : ¬ ((m : Int) ≤ 0) := by omega
  have gn' : (0 : Int) < n := by omega
  have gm' : (0 : Int) < m := by omega
  have gn'' : n ≠ 0 := by omega
  have gm'' : m ≠ 0 := by omega
  conv => arg 2; whnf
  refine wp_region_inv (by kernel_rfl) (by kernel_rfl) (Kid3I W fb n c m d aa bb φ x0 x1 x2 x3 x4 y0 y1 y2 y3 y4 c3 c4 c5 c6 c7 c8 c9 c10 c11 c12 c13 c14 c15 c16 c17 c18 c28 c29 c30 c31 c32 c33 c34 c35 c36 c37 c38) ?_ ?_ ?_
  · exact ⟨_, _, _, _, _, _, _, _, _, rfl, fun h => absurd h l0, fun h => absurd h l0, fun h => absurd h l0, fun h => absurd h l0, fun h => absurd h l0, fun h => absurd h l0, fun h => absurd h l0, fun h => absurd h l0, fun h => absurd h l0, bdr (Below.refl _ _), fun h => absurd h l0⟩
  · intro i o listed A w hi ho hdp hnl hI
    obtain ⟨s19, s20, s21, s22, s23, s24, s25, s26, s27, rfl, F0, F1, F2, F3, F4, F5, F6, F7, F8, FB, G8⟩ := hI
    have hi' : i < 9 := hi
    clear hi
    rcases (by omega : i = 0 ∨ i = 1 ∨ i = 2 ∨ i = 3 ∨ i = 4 ∨ i = 5 ∨ i = 6 ∨ i = 7 ∨ i = 8) with rfl | rfl | rfl | rfl | rfl | rfl | rfl | rfl | rfl
    · simp only [List.getElem?_toArray, List.getElem?_cons_zero, Option.some.injEq] at ho
      subst ho
      have HFB := Lib.hid FB
      clear FB
      refine wpOp_step rfl (fun K hK => ?_)
      go_simp
      refine hK _ _ ?_
      exact ⟨_, _, _, _, _, _, _, _, _, rfl, fun _ => rfl, (by first | exact lk F1 | exact fun _ => rfl | exact fun _ => ⟨_, rfl, by assumption⟩ | exact fun h => absurd (ls (by decide) h) (by simp_all)), (by first | exact lk F2 | exact fun _ => rfl | exact fun _ => ⟨_, rfl, by assumption⟩ | exact fun h => absurd (ls (by decide) h) (by simp_all)), (by first | exact lk F3 | exact fun _ => rfl | exact fun _ => ⟨_, rfl, by assumption⟩ | exact fun h => absurd (ls (by decide) h) (by simp_all)), (by first | exact lk F4 | exact fun _ => rfl | exact fun _ => ⟨_, rfl, by assumption⟩ | exact fun h => absurd (ls (by decide) h) (by simp_all)), (by first | exact lk F5 | exact fun _ => rfl | exact fun _ => ⟨_, rfl, by assumption⟩ | exact fun h => absurd (ls (by decide) h) (by simp_all)), (by first | exact lk F6 | exact fun _ => rfl | exact fun _ => ⟨_, rfl, by assumption⟩ | exact fun h => absurd (ls (by decide) h) (by simp_all)), (by first | exact lk F7 | exact fun _ => rfl | exact fun _ => ⟨_, rfl, by assumption⟩ | exact fun h => absurd (ls (by decide) h) (by simp_all)), (by first | exact lk F8 | exact fun _ => rfl | exact fun _ => ⟨_, rfl, by assumption⟩ | exact fun h => absurd (ls (by decide) h) (by simp_all)), HFB.out, fun h => la (G8 (ls (by decide) h))⟩
    · simp only [List.getElem?_toArray, List.getElem?_cons_zero, List.getElem?_cons_succ, Option.some.injEq] at ho
      subst ho
      have HFB := Lib.hid FB
      clear FB
      refine wpOp_step rfl (fun K hK => ?_)
      go_simp
      refine hK _ _ ?_
      exact ⟨_, _, _, _, _, _, _, _, _, rfl, (by first | exact lk F0 | exact fun _ => rfl | exact fun _ => ⟨_, rfl, by assumption⟩ | exact fun h => absurd (ls (by decide) h) (by simp_all)), fun _ => rfl, (by first | exact lk F2 | exact fun _ => rfl | exact fun _ => ⟨_, rfl, by assumption⟩ | exact fun h => absurd (ls (by decide) h) (by simp_all)), (by first | exact lk F3 | exact fun _ => rfl | exact fun _ => ⟨_, rfl, by assumption⟩ | exact fun h => absurd (ls (by decide) h) (by simp_all)), (by first | exact lk F4 | exact fun _ => rfl | exact fun _ => ⟨_, rfl, by assumption⟩ | exact fun h => absurd (ls (by decide) h) (by simp_all)), (by first | exact lk F5 | exact fun _ => rfl | exact fun _ => ⟨_, rfl, by assumption⟩ | exact fun h => absurd (ls (by decide) h) (by simp_all)), (by first | exact lk F6 | exact fun _ => rfl | exact fun _ => ⟨_, rfl, by assumption⟩ | exact fun h => absurd (ls (by decide) h) (by simp_all)), (by first | exact lk F7 | exact fun _ => rfl | exact fun _ => ⟨_, rfl, by assumption⟩ | exact fun h => absurd (ls (by decide) h) (by simp_all)), (by first | exact lk F8 | exact fun _ => rfl | exact fun _ => ⟨_, rfl, by assumption⟩ | exact fun h => absurd (ls (by decide) h) (by simp_all)), HFB.out, fun h => la (G8 (ls (by decide) h))⟩
    · simp only [List.getElem?_toArray, List.getElem?_cons_zero, List.getElem?_cons_succ, Option.some.injEq] at ho
      subst ho
      have L1 := hdp ⟨1, .data⟩ (by simp) rfl
      obtain rfl := F1 L1
      have HFB := Lib.hid FB
      clear FB
      refine wpOp_step rfl (fun K hK => ?_)
      go_simp
      refine hK _ _ ?_
      exact ⟨_, _, _, _, _, _, _, _, _, rfl, (by first | exact lk F0 | exact fun _ => rfl | exact fun _ => ⟨_, rfl, by assumption⟩ | exact fun h => absurd (ls (by decide) h) (by simp_all)), (by first | exact lk F1 | exact fun _ => rfl | exact fun _ => ⟨_, rfl, by assumption⟩ | exact fun h => absurd (ls (by decide) h) (by simp_all)), fun _ => rfl, (by first | exact lk F3 | exact fun _ => rfl | exact fun _ => ⟨_, rfl, by assumption⟩ | exact fun h => absurd (ls (by decide) h) (by simp_all)), (by first | exact lk F4 | exact fun _ => rfl | exact fun _ => ⟨_, rfl, by assumption⟩ | exact fun h => absurd (ls (by decide) h) (by simp_all)), (by first | exact lk F5 | exact fun _ => rfl | exact fun _ => ⟨_, rfl, by assumption⟩ | exact fun h => absurd (ls (by decide) h) (by simp_all)), (by first | exact lk F6 | exact fun _ => rfl | exact fun _ => ⟨_, rfl, by assumption⟩ | exact fun h => absurd (ls (by decide) h) (by simp_all)), (by first | exact lk F7 | exact fun _ => rfl | exact fun _ => ⟨_, rfl, by assumption⟩ | exact fun h => absurd (ls (by decide) h) (by simp_all)), (by first | exact lk F8 | exact fun _ => rfl | exact fun _ => ⟨_, rfl, by assumption⟩ | exact fun h => absurd (ls (by decide) h) (by simp_all)), HFB.out, fun h => la (G8 (ls (by decide) h))⟩
    · simp only [List.getElem?_toArray, List.getElem?_cons_zero, List.getElem?_cons_succ, Option.some.injEq] at ho
      subst ho
      have L2 := hdp ⟨2, .data⟩ (by simp) rfl
      obtain rfl := F2 L2
      have e0 := read_below ka0 ha FB
      have e1 := read_below ka1 ha FB
      have e2 := read_below ka2 ha FB
      have e3 := read_below ka3 ha FB
      have e4 := read_below ka4 ha FB
      have HFB := Lib.hid FB
      clear FB
      refine wpOp_step rfl (fun K hK => ?_)
      go_simp
      refine hK _ _ ?_
      exact ⟨_, _, _, _, _, _, _, _, _, rfl, (by first | exact lk F0 | exact fun _ => rfl | exact fun _ => ⟨_, rfl, by assumption⟩ | exact fun h => absurd (ls (by decide) h) (by simp_all)), (by first | exact lk F1 | exact fun _ => rfl | exact fun _ => ⟨_, rfl, by assumption⟩ | exact fun h => absurd (ls (by decide) h) (by simp_all)), (by first | exact lk F2 | exact fun _ => rfl | exact fun _ => ⟨_, rfl, by assumption⟩ | exact fun h => absurd (ls (by decide) h) (by simp_all)), fun _ => rfl, (by first | exact lk F4 | exact fun _ => rfl | exact fun _ => ⟨_, rfl, by assumption⟩ | exact fun h => absurd (ls (by decide) h) (by simp_all)), (by first | exact lk F5 | exact fun _ => rfl | exact fun _ => ⟨_, rfl, by assumption⟩ | exact fun h => absurd (ls (by decide) h) (by simp_all)), (by first | exact lk F6 | exact fun _ => rfl | exact fun _ => ⟨_, rfl, by assumption⟩ | exact fun h => absurd (ls (by decide) h) (by simp_all)), (by first | exact lk F7 | exact fun _ => rfl | exact fun _ => ⟨_, rfl, by assumption⟩ | exact fun h => absurd (ls (by decide) h) (by simp_all)), (by first | exact lk F8 | exact fun _ => rfl | exact fun _ => ⟨_, rfl, by assumption⟩ | exact fun h => absurd (ls (by decide) h) (by simp_all)), HFB.out, fun h => la (G8 (ls (by decide) h))⟩
    · simp only [List.getElem?_toArray, List.getElem?_cons_zero, List.getElem?_cons_succ, Option.some.injEq] at ho
      subst ho
      have HFB := Lib.hid FB
      clear FB
      refine wpOp_step rfl (fun K hK => ?_)
      go_simp
      refine hK _ _ ?_
      exact ⟨_, _, _, _, _, _, _, _, _, rfl, (by first | exact lk F0 | exact fun _ => rfl | exact fun _ => ⟨_, rfl, by assumption⟩ | exact fun h => absurd (ls (by decide) h) (by simp_all)), (by first | exact lk F1 | exact fun _ => rfl | exact fun _ => ⟨_, rfl, by assumption⟩ | exact fun h => absurd (ls (by decide) h) (by simp_all)), (by first | exact lk F2 | exact fun _ => rfl | exact fun _ => ⟨_, rfl, by assumption⟩ | exact fun h => absurd (ls (by decide) h) (by simp_all)), (by first | exact lk F3 | exact fun _ => rfl | exact fun _ => ⟨_, rfl, by assumption⟩ | exact fun h => absurd (ls (by decide) h) (by simp_all)), fun _ => rfl, (by first | exact lk F5 | exact fun _ => rfl | exact fun _ => ⟨_, rfl, by assumption⟩ | exact fun h => absurd (ls (by decide) h) (by simp_all)), (by first | exact lk F6 | exact fun _ => rfl | exact fun _ => ⟨_, rfl, by assumption⟩ | exact fun h => absurd (ls (by decide) h) (by simp_all)), (by first | exact lk F7 | exact fun _ => rfl | exact fun _ => ⟨_, rfl, by assumption⟩ | exact fun h => absurd (ls (by decide) h) (by simp_all)), (by first | exact lk F8 | exact fun _ => rfl | exact fun _ => ⟨_, rfl, by assumption⟩ | exact fun h => absurd (ls (by decide) h) (by simp_all)), HFB.out, fun h => la (G8 (ls (by decide) h))⟩
    · simp only [List.getElem?_toArray, List.getElem?_cons_zero, List.getElem?_cons_succ, Option.some.injEq] at ho
      subst ho
      have L4 := hdp ⟨4, .data⟩ (by simp) rfl
      obtain rfl := F4 L4
      have HFB := Lib.hid FB
      clear FB
      refine wpOp_step rfl (fun K hK => ?_)
      go_simp
      refine hK _ _ ?_
      exact ⟨_, _, _, _, _, _, _, _, _, rfl, (by first | exact lk F0 | exact fun _ => rfl | exact fun _ => ⟨_, rfl, by assumption⟩ | exact fun h => absurd (ls (by decide) h) (by simp_all)), (by first | exact lk F1 | exact fun _ => rfl | exact fun _ => ⟨_, rfl, by assumption⟩ | exact fun h => absurd (ls (by decide) h) (by simp_all)), (by first | exact lk F2 | exact fun _ => rfl | exact fun _ => ⟨_, rfl, by assumption⟩ | exact fun h => absurd (ls (by decide) h) (by simp_all)), (by first | exact lk F3 | exact fun _ => rfl | exact fun _ => ⟨_, rfl, by assumption⟩ | exact fun h => absurd (ls (by decide) h) (by simp_all)), (by first | exact lk F4 | exact fun _ => rfl | exact fun _ => ⟨_, rfl, by assumption⟩ | exact fun h => absurd (ls (by decide) h) (by simp_all)), fun _ => rfl, (by first | exact lk F6 | exact fun _ => rfl | exact fun _ => ⟨_, rfl, by assumption⟩ | exact fun h => absurd (ls (by decide) h) (by simp_all)), (by first | exact lk F7 | exact fun _ => rfl | exact fun _ => ⟨_, rfl, by assumption⟩ | exact fun h => absurd (ls (by decide) h) (by simp_all)), (by first | exact lk F8 | exact fun _ => rfl | exact fun _ => ⟨_, rfl, by assumption⟩ | exact fun h => absurd (ls (by decide) h) (by simp_all)), HFB.out, fun h => la (G8 (ls (by decide) h))⟩
    · simp only [List.getElem?_toArray, List.getElem?_cons_zero, List.getElem?_cons_succ, Option.some.injEq] at ho
      subst ho
      have L5 := hdp ⟨5, .data⟩ (by simp) rfl
      obtain rfl := F5 L5
      have e0 := read_below kb0 hb FB
      have e1 := read_below kb1 hb FB
      have e2 := read_below kb2 hb FB
      have e3 := read_below kb3 hb FB
      have e4 := read_below kb4 hb FB
      have HFB := Lib.hid FB
      clear FB
      refine wpOp_step rfl (fun K hK => ?_)
      go_simp
      refine hK _ _ ?_
      exact ⟨_, _, _, _, _, _, _, _, _, rfl, (by first | exact lk F0 | exact fun _ => rfl | exact fun _ => ⟨_, rfl, by assumption⟩ | exact fun h => absurd (ls (by decide) h) (by simp_all)), (by first | exact lk F1 | exact fun _ => rfl | exact fun _ => ⟨_, rfl, by assumption⟩ | exact fun h => absurd (ls (by decide) h) (by simp_all)), (by first | exact lk F2 | exact fun _ => rfl | exact fun _ => ⟨_, rfl, by assumption⟩ | exact fun h => absurd (ls (by decide) h) (by simp_all)), (by first | exact lk F3 | exact fun _ => rfl | exact fun _ => ⟨_, rfl, by assumption⟩ | exact fun h => absurd (ls (by decide) h) (by simp_all)), (by first | exact lk F4 | exact fun _ => rfl | exact fun _ => ⟨_, rfl, by assumption⟩ | exact fun h => absurd (ls (by decide) h) (by simp_all)), (by first | exact lk F5 | exact fun _ => rfl | exact fun _ => ⟨_, rfl, by assumption⟩ | exact fun h => absurd (ls (by decide) h) (by simp_all)), fun _ => rfl, (by first | exact lk F7 | exact fun _ => rfl | exact fun _ => ⟨_, rfl, by assumption⟩ | exact fun h => absurd (ls (by decide) h) (by simp_all)), (by first | exact lk F8 | exact fun _ => rfl | exact fun _ => ⟨_, rfl, by assumption⟩ | exact fun h => absurd (ls (by decide) h) (by simp_all)), HFB.out, fun h => la (G8 (ls (by decide) h))⟩
    · simp only [List.getElem?_toArray, List.getElem?_cons_zero, List.getElem?_cons_succ, Option.some.injEq] at ho
      subst ho
      have L0 := hdp ⟨0, .data⟩ (by simp) rfl
      have L3 := hdp ⟨3, .data⟩ (by simp) rfl
      have L6 := hdp ⟨6, .data⟩ (by simp) rfl
      obtain rfl := F0 L0
      obtain rfl := F3 L3
      obtain rfl := F6 L6
      have HFB := Lib.hid FB
      clear FB
      have HC := Lib.hid (HS.out w HFB.out)
      refine wpOp_step rfl (fun K hK => ?_)
      (try unfold fn); go_simp
      go_at_call 13
      refine HC.out.mono ?_
      rintro e' w' ⟨r, rfl, hr, hb'⟩
      have HB' := Lib.hid hb'
      clear hb'
      (try go_simp)
      refine hK _ _ ?_
      exact ⟨_, _, _, _, _, _, _, _, _, rfl, (by first | exact lk F0 | exact fun _ => rfl | exact fun _ => ⟨_, rfl, by assumption⟩ | exact fun h => absurd (ls (by decide) h) (by simp_all)), (by first | exact lk F1 | exact fun _ => rfl | exact fun _ => ⟨_, rfl, by assumption⟩ | exact fun h => absurd (ls (by decide) h) (by simp_all)), (by first | exact lk F2 | exact fun _ => rfl | exact fun _ => ⟨_, rfl, by assumption⟩ | exact fun h => absurd (ls (by decide) h) (by simp_all)), (by first | exact lk F3 | exact fun _ => rfl | exact fun _ => ⟨_, rfl, by assumption⟩ | exact fun h => absurd (ls (by decide) h) (by simp_all)), (by first | exact lk F4 | exact fun _ => rfl | exact fun _ => ⟨_, rfl, by assumption⟩ | exact fun h => absurd (ls (by decide) h) (by simp_all)), (by first | exact lk F5 | exact fun _ => rfl | exact fun _ => ⟨_, rfl, by assumption⟩ | exact fun h => absurd (ls (by decide) h) (by simp_all)), (by first | exact lk F6 | exact fun _ => rfl | exact fun _ => ⟨_, rfl, by assumption⟩ | exact fun h => absurd (ls (by decide) h) (by simp_all)), fun _ => ⟨r, rfl, hr⟩, fun h => absurd (G8 (ls (by decide) h)) (by rw [lf hnl]; decide), bt HFB.out HB'.out, fun _ => lself hnl⟩
    · simp only [List.getElem?_toArray, List.getElem?_cons_zero, List.getElem?_cons_succ, Option.some.injEq] at ho
      subst ho
      have L7 := hdp ⟨7, .data⟩ (by simp) rfl
      obtain ⟨r, rfl, hr⟩ := F7 L7
      have HFB := Lib.hid FB
      clear FB
      refine wpOp_step rfl (fun K hK => ?_)
      go_simp
      refine hK _ _ ?_
      exact ⟨_, _, _, _, _, _, _, _, _, rfl, (by first | exact lk F0 | exact fun _ => rfl | exact fun _ => ⟨_, rfl, by assumption⟩ | exact fun h => absurd (ls (by decide) h) (by simp_all)), (by first | exact lk F1 | exact fun _ => rfl | exact fun _ => ⟨_, rfl, by assumption⟩ | exact fun h => absurd (ls (by decide) h) (by simp_all)), (by first | exact lk F2 | exact fun _ => rfl | exact fun _ => ⟨_, rfl, by assumption⟩ | exact fun h => absurd (ls (by decide) h) (by simp_all)), (by first | exact lk F3 | exact fun _ => rfl | exact fun _ => ⟨_, rfl, by assumption⟩ | exact fun h => absurd (ls (by decide) h) (by simp_all)), (by first | exact lk F4 | exact fun _ => rfl | exact fun _ => ⟨_, rfl, by assumption⟩ | exact fun h => absurd (ls (by decide) h) (by simp_all)), (by first | exact lk F5 | exact fun _ => rfl | exact fun _ => ⟨_, rfl, by assumption⟩ | exact fun h => absurd (ls (by decide) h) (by simp_all)), (by first | exact lk F6 | exact fun _ => rfl | exact fun _ => ⟨_, rfl, by assumption⟩ | exact fun h => absurd (ls (by decide) h) (by simp_all)), (by first | exact lk F7 | exact fun _ => rfl | exact fun _ => ⟨_, rfl, by assumption⟩ | exact fun h => absurd (ls (by decide) h) (by simp_all)), fun _ => ⟨r, rfl, rfl, hr⟩, HFB.out, fun _ => la L7⟩
  · intro listed A w hall hI
    obtain ⟨s19, s20, s21, s22, s23, s24, s25, s26, s27, rfl, F0, F1, F2, F3, F4, F5, F6, F7, F8, FB, G8⟩ := hI
    obtain rfl := F0 (hall 0 (by decide))
    obtain rfl := F1 (hall 1 (by decide))
    obtain rfl := F2 (hall 2 (by decide))
    obtain rfl := F3 (hall 3 (by decide))
    obtain rfl := F4 (hall 4 (by decide))
    obtain rfl := F5 (hall 5 (by decide))
    obtain rfl := F6 (hall 6 (by decide))
    obtain ⟨r, rfl, rfl, hr⟩ := F8 (hall 8 (by decide))
    exact hQ r _ hr FB
end Go.Proofs.YtnkodafhjcjpjaaDoor
namespace Go.Proofs.YtnkodafhjcjpjaaDoor
open Go.RowKit Go.Lib
set_option maxRecDepth 100000
set_option maxHeartbeats 8000000
theorem kept_off {listed : Array Bool} {i j : Nat} {p : Prop} (F : listed.getD j false = false → p) (h : i ≠ j := by decide) : (listed.setIfInBounds i true).getD j false = false → p := fun q => F (by rw [flag_ne j h] at q; exact q)
def Both5I (W0 : World) (fb n c m d : Nat) (aa bb : Addr) (φa φb : Option Addr → Nat → Nat → Prop) (c3 c4 c5 c6 c7 c8 c9 c10 c11 c12 c13 c14 c15 c16 c17 c18 c19 c20 c21 c22 c23 c24 c25 c26 c27 c34 c35 c36 c37 c38 : Value) (listed : Array Bool) (A : Act) (w : World) : Prop := ∃ (s0 s1 s28 s29 s30 s31 s32 s33 : Value), A = { tmps := #[s0, s1, fn fb, c3, c4, c5, c6, c7, c8, c9, c10, c11, c12, c13, c14, c15, c16, c17, c18, c19, c20, c21, c22, c23, c24, c25, c26, c27, s28, s29, s30, s31, s32, s33, c34, c35, c36, c37, c38], defers := [] } ∧
  (listed.getD 0 false = true → s28 = .slice (some aa) (n + 1) c) ∧
  (listed.getD 1 false = true → s29 = .slice (if c = 1 then some aa else some (aa.add 5)) n (c - 1)) ∧
  (listed.getD 2 false = true → ∃ A' n' c', s30 = .slice A' n' c' ∧ φa A' n' c') ∧
  (listed.getD 3 false = true → s31 = .slice (some bb) (m + 1) d) ∧
  (listed.getD 4 false = true → s32 = .slice (if d = 1 then some bb else some (bb.add 5)) m (d - 1)) ∧
  (listed.getD 5 false = true → ∃ B' m' d', s33 = .slice B' m' d' ∧ φb B' m' d') ∧
  (listed.getD 6 false = true → ∃ A' n' c', s0 = .slice A' n' c' ∧ φa A' n' c') ∧
  (listed.getD 7 false = true → ∃ B' m' d', s1 = .slice B' m' d' ∧ φb B' m' d') ∧
  (listed.getD 6 false = false → s0 = .slice (some aa) (n + 1) c) ∧
  (listed.getD 7 false = false → s1 = .slice (some bb) (m + 1) d) ∧
  (listed.getD 1 false = true → listed.getD 0 false = true) ∧
  (listed.getD 2 false = true → listed.getD 0 false = true) ∧
  (listed.getD 6 false = true → listed.getD 0 false = true) ∧
  (listed.getD 4 false = true → listed.getD 3 false = true) ∧
  (listed.getD 5 false = true → listed.getD 3 false = true) ∧
  (listed.getD 7 false = true → listed.getD 3 false = true) ∧
  w = W0
set_option maxHeartbeats 16000000 in
theorem Both5_region (W : World) (fb n c m d : Nat) (aa bb : Addr) (φa φb : Option Addr → Nat → Nat → Prop) (c3 c4 c5 c6 c7 c8 c9 c10 c11 c12 c13 c14 c15 c16 c17 c18 c19 c20 c21 c22 c23 c24 c25 c26 c27 c34 c35 c36 c37 c38 : Value) (z28 z29 z30 z31 z32 z33 : Value) (Q : Exit → Act → World → Prop) (hnc : n + 1 ≤ c) (hmd : m + 1 ≤ d) (_hc : c ≤ maxLen) (_hd : d ≤ maxLen)
    (hCA : Calls Tryd.prog 25 #[.slice (if c = 1 then some aa else some (aa.add 5)) n (c - 1)] W.drew fun e w' => ∃ A' n' c', e = .returned (.slice A' n' c') ∧ φa A' n' c' ∧ w' = W.drew)
    (hCB : Calls Tryd.prog 25 #[.slice (if d = 1 then some bb else some (bb.add 5)) m (d - 1)] W.drew fun e w' => ∃ B' m' d', e = .returned (.slice B' m' d') ∧ φb B' m' d' ∧ w' = W.drew)
    (hQ : ∀ A' n' c' B' m' d' y28 y29 y30 y31 y32 y33, φa A' n' c' → φb B' m' d' → Q .normal { tmps := #[.slice A' n' c', .slice B' m' d', fn fb, c3, c4, c5, c6, c7, c8, c9, c10, c11, c12, c13, c14, c15, c16, c17, c18, c19, c20, c21, c22, c23, c24, c25, c26, c27, y28, y29, y30, y31, y32, y33, c34, c35, c36, c37, c38], defers := [] } W.drew) :
    Code.wp Tryd.prog ((Tryd.f14.body.bind (regionOf 5)).getD .skip) Q { tmps := #[.slice (some aa) (n + 1) c, .slice (some bb) (m + 1) d, fn fb, c3, c4, c5, c6, c7, c8, c9, c10, c11, c12, c13, c14, c15, c16, c17, c18, c19, c20, c21, c22, c23, c24, c25, c26, c27, z28, z29, z30, z31, z32, z33, c34, c35, c36, c37, c38], defers := [] } W := by
  have HCA := Lib.hid hCA; have HCB := Lib.hid hCB
  clear hCA hCB
  conv => arg 2; whnf
  refine wp_region_inv (by kernel_rfl) (by kernel_rfl) (Both5I W.drew fb n c m d aa bb φa φb c3 c4 c5 c6 c7 c8 c9 c10 c11 c12 c13 c14 c15 c16 c17 c18 c19 c20 c21 c22 c23 c24 c25 c26 c27 c34 c35 c36 c37 c38) ?_ ?_ ?_
  · exact ⟨_, _, _, _, _, _, _, _, rfl, fun h => absurd h l0, fun h => absurd h l0, fun h => absurd h l0, fun h => absurd h l0, fun h => absurd h l0, fun h => absurd h l0, fun h => absurd h l0, fun h => absurd h l0, fun _ => rfl, fun _ => rfl, fun h => absurd h l0, fun h => absurd h l0, fun h => absurd h l0, fun h => absurd h l0, fun h => absurd h l0, fun h => absurd h l0, rfl⟩
  · intro i o listed A w hi ho hdp hnl hI
    obtain ⟨s0, s1, s28, s29, s30, s31, s32, s33, rfl, F0, F1, F2, F3, F4, F5, F6, F7, E0, E1, G1, G2, G6, G4, G5, G7, rfl⟩ := hI
    have hi' : i < 8 := hi
    clear hi
    rcases (by omega : i = 0 ∨ i = 1 ∨ i = 2 ∨ i = 3 ∨ i = 4 ∨ i = 5 ∨ i = 6 ∨ i = 7) with rfl | rfl | rfl | rfl | rfl | rfl | rfl | rfl
    · simp only [List.getElem?_toArray, List.getElem?_cons_zero, Option.some.injEq] at ho
      subst ho
      obtain rfl := E0 (off G6 (lf hnl))
      refine wpOp_step rfl (fun K hK => ?_)
      go_simp
      refine hK _ _ ?_
      exact ⟨_, _, _, _, _, _, _, _, rfl, fun _ => (by first | rfl | go_num), (by first | exact lk F1 | exact fun _ => rfl | exact fun _ => ⟨_, _, _, rfl, by assumption⟩), (by first | exact lk F2 | exact fun _ => rfl | exact fun _ => ⟨_, _, _, rfl, by assumption⟩), (by first | exact lk F3 | exact fun _ => rfl | exact fun _ => ⟨_, _, _, rfl, by assumption⟩), (by first | exact lk F4 | exact fun _ => rfl | exact fun _ => ⟨_, _, _, rfl, by assumption⟩), (by first | exact lk F5 | exact fun _ => rfl | exact fun _ => ⟨_, _, _, rfl, by assumption⟩), (by first | exact lk F6 | exact fun _ => rfl | exact fun _ => ⟨_, _, _, rfl, by assumption⟩), (by first | exact lk F7 | exact fun _ => rfl | exact fun _ => ⟨_, _, _, rfl, by assumption⟩), (by first | exact kept_off E0 | exact fun _ => rfl), (by first | exact kept_off E1 | exact fun _ => rfl), fun _ => lself hnl, fun _ => lself hnl, fun _ => lself hnl, fun h => la (G4 (ls (by decide) h)), fun h => la (G5 (ls (by decide) h)), fun h => la (G7 (ls (by decide) h)), rfl⟩
    · simp only [List.getElem?_toArray, List.getElem?_cons_zero, List.getElem?_cons_succ, Option.some.injEq] at ho
      subst ho
      have L0 := hdp ⟨0, .data⟩ (by simp) rfl
      obtain rfl := F0 L0
      have q1 : (1 : Int) ≤ (n : Int) + 1 := by omega
      have q2 : (((n + 1 : Nat) : Int)) ≤ (c : Int) := by omega
      refine wpOp_step rfl (fun K hK => ?_)
      go_simp
      refine hK _ _ ?_
      exact ⟨_, _, _, _, _, _, _, _, rfl, (by first | exact lk F0 | exact fun _ => rfl | exact fun _ => ⟨_, _, _, rfl, by assumption⟩), fun _ => (by first | rfl | go_num), (by first | exact lk F2 | exact fun _ => rfl | exact fun _ => ⟨_, _, _, rfl, by assumption⟩), (by first | exact lk F3 | exact fun _ => rfl | exact fun _ => ⟨_, _, _, rfl, by assumption⟩), (by first | exact lk F4 | exact fun _ => rfl | exact fun _ => ⟨_, _, _, rfl, by assumption⟩), (by first | exact lk F5 | exact fun _ => rfl | exact fun _ => ⟨_, _, _, rfl, by assumption⟩), (by first | exact lk F6 | exact fun _ => rfl | exact fun _ => ⟨_, _, _, rfl, by assumption⟩), (by first | exact lk F7 | exact fun _ => rfl | exact fun _ => ⟨_, _, _, rfl, by assumption⟩), (by first | exact kept_off E0 | exact fun _ => rfl), (by first | exact kept_off E1 | exact fun _ => rfl), fun _ => la (L0), fun h => la (G2 (ls (by decide) h)), fun h => la (G6 (ls (by decide) h)), fun h => la (G4 (ls (by decide) h)), fun h => la (G5 (ls (by decide) h)), fun h => la (G7 (ls (by decide) h)), rfl⟩
    · simp only [List.getElem?_toArray, List.getElem?_cons_zero, List.getElem?_cons_succ, Option.some.injEq] at ho
      subst ho
      have L1 := hdp ⟨1, .data⟩ (by simp) rfl
      obtain rfl := F1 L1
      refine wpOp_step rfl (fun K hK => ?_)
      go_simp
      go_at_call 25
      refine HCA.out.mono ?_
      rintro e' w' ⟨A', n', c', rfl, ha, rfl⟩
      (try go_simp)
      refine hK _ _ ?_
      exact ⟨_, _, _, _, _, _, _, _, rfl, (by first | exact lk F0 | exact fun _ => rfl | exact fun _ => ⟨_, _, _, rfl, by assumption⟩), (by first | exact lk F1 | exact fun _ => rfl | exact fun _ => ⟨_, _, _, rfl, by assumption⟩), fun _ => ⟨_, _, _, rfl, ha⟩, (by first | exact lk F3 | exact fun _ => rfl | exact fun _ => ⟨_, _, _, rfl, by assumption⟩), (by first | exact lk F4 | exact fun _ => rfl | exact fun _ => ⟨_, _, _, rfl, by assumption⟩), (by first | exact lk F5 | exact fun _ => rfl | exact fun _ => ⟨_, _, _, rfl, by assumption⟩), (by first | exact lk F6 | exact fun _ => rfl | exact fun _ => ⟨_, _, _, rfl, by assumption⟩), (by first | exact lk F7 | exact fun _ => rfl | exact fun _ => ⟨_, _, _, rfl, by assumption⟩), (by first | exact kept_off E0 | exact fun _ => rfl), (by first | exact kept_off E1 | exact fun _ => rfl), fun h => la (G1 (ls (by decide) h)), fun _ => la (G1 L1), fun h => la (G6 (ls (by decide) h)), fun h => la (G4 (ls (by decide) h)), fun h => la (G5 (ls (by decide) h)), fun h => la (G7 (ls (by decide) h)), rfl⟩
    · simp only [List.getElem?_toArray, List.getElem?_cons_zero, List.getElem?_cons_succ, Option.some.injEq] at ho
      subst ho
      obtain rfl := E1 (off G7 (lf hnl))
      refine wpOp_step rfl (fun K hK => ?_)
      go_simp
      refine hK _ _ ?_
      exact ⟨_, _, _, _, _, _, _, _, rfl, (by first | exact lk F0 | exact fun _ => rfl | exact fun _ => ⟨_, _, _, rfl, by assumption⟩), (by first | exact lk F1 | exact fun _ => rfl | exact fun _ => ⟨_, _, _, rfl, by assumption⟩), (by first | exact lk F2 | exact fun _ => rfl | exact fun _ => ⟨_, _, _, rfl, by assumption⟩), fun _ => (by first | rfl | go_num), (by first | exact lk F4 | exact fun _ => rfl | exact fun _ => ⟨_, _, _, rfl, by assumption⟩), (by first | exact lk F5 | exact fun _ => rfl | exact fun _ => ⟨_, _, _, rfl, by assumption⟩), (by first | exact lk F6 | exact fun _ => rfl | exact fun _ => ⟨_, _, _, rfl, by assumption⟩), (by first | exact lk F7 | exact fun _ => rfl | exact fun _ => ⟨_, _, _, rfl, by assumption⟩), (by first | exact kept_off E0 | exact fun _ => rfl), (by first | exact kept_off E1 | exact fun _ => rfl), fun h => la (G1 (ls (by decide) h)), fun h => la (G2 (ls (by decide) h)), fun h => la (G6 (ls (by decide) h)), fun _ => lself hnl, fun _ => lself hnl, fun _ => lself hnl, rfl⟩
    · simp only [List.getElem?_toArray, List.getElem?_cons_zero, List.getElem?_cons_succ, Option.some.injEq] at ho
      subst ho
      have L3 := hdp ⟨3, .data⟩ (by simp) rfl
      obtain rfl := F3 L3
      have q1 : (1 : Int) ≤ (m : Int) + 1 := by omega
      have q2 : (((m + 1 : Nat) : Int)) ≤ (d : Int) := by omega
      refine wpOp_step rfl (fun K hK => ?_)
      go_simp
      refine hK _ _ ?_
      exact ⟨_, _, _, _, _, _, _, _, rfl, (by first | exact lk F0 | exact fun _ => rfl | exact fun _ => ⟨_, _, _, rfl, by assumption⟩), (by first | exact lk F1 | exact fun _ => rfl | exact fun _ => ⟨_, _, _, rfl, by assumption⟩), (by first | exact lk F2 | exact fun _ => rfl | exact fun _ => ⟨_, _, _, rfl, by assumption⟩), (by first | exact lk F3 | exact fun _ => rfl | exact fun _ => ⟨_, _, _, rfl, by assumption⟩), fun _ => (by first | rfl | go_num), (by first | exact lk F5 | exact fun _ => rfl | exact fun _ => ⟨_, _, _, rfl, by assumption⟩), (by first | exact lk F6 | exact fun _ => rfl | exact fun _ => ⟨_, _, _, rfl, by assumption⟩), (by first | exact lk F7 | exact fun _ => rfl | exact fun _ => ⟨_, _, _, rfl, by assumption⟩), (by first | exact kept_off E0 | exact fun _ => rfl), (by first | exact kept_off E1 | exact fun _ => rfl), fun h => la (G1 (ls (by decide) h)), fun h => la (G2 (ls (by decide) h)), fun h => la (G6 (ls (by decide) h)), fun _ => la (L3), fun h => la (G5 (ls (by decide) h)), fun h => la (G7 (ls (by decide) h)), rfl⟩
    · simp only [List.getElem?_toArray, List.getElem?_cons_zero, List.getElem?_cons_succ, Option.some.injEq] at ho
      subst ho
      have L4 := hdp ⟨4, .data⟩ (by simp) rfl
      obtain rfl := F4 L4
      refine wpOp_step rfl (fun K hK => ?_)
      go_simp
      go_at_call 25
      refine HCB.out.mono ?_
      rintro e' w' ⟨B', m', d', rfl, hb, rfl⟩
      (try go_simp)
      refine hK _ _ ?_
      exact ⟨_, _, _, _, _, _, _, _, rfl, (by first | exact lk F0 | exact fun _ => rfl | exact fun _ => ⟨_, _, _, rfl, by assumption⟩), (by first | exact lk F1 | exact fun _ => rfl | exact fun _ => ⟨_, _, _, rfl, by assumption⟩), (by first | exact lk F2 | exact fun _ => rfl | exact fun _ => ⟨_, _, _, rfl, by assumption⟩), (by first | exact lk F3 | exact fun _ => rfl | exact fun _ => ⟨_, _, _, rfl, by assumption⟩), (by first | exact lk F4 | exact fun _ => rfl | exact fun _ => ⟨_, _, _, rfl, by assumption⟩), fun _ => ⟨_, _, _, rfl, hb⟩, (by first | exact lk F6 | exact fun _ => rfl | exact fun _ => ⟨_, _, _, rfl, by assumption⟩), (by first | exact lk F7 | exact fun _ => rfl | exact fun _ => ⟨_, _, _, rfl, by assumption⟩), (by first | exact kept_off E0 | exact fun _ => rfl), (by first | exact kept_off E1 | exact fun _ => rfl), fun h => la (G1 (ls (by decide) h)), fun h => la (G2 (ls (by decide) h)), fun h => la (G6 (ls (by decide) h)), fun h => la (G4 (ls (by decide) h)), fun _ => la (G4 L4), fun h => la (G7 (ls (by decide) h)), rfl⟩
    · simp only [List.getElem?_toArray, List.getElem?_cons_zero, List.getElem?_cons_succ, Option.some.injEq] at ho
      subst ho
      have L2 := hdp ⟨2, .data⟩ (by simp) rfl
      obtain ⟨A', n', c', rfl, ha⟩ := F2 L2
      refine wpOp_step rfl (fun K hK => ?_)
      go_simp
      refine hK _ _ ?_
      exact ⟨_, _, _, _, _, _, _, _, rfl, (by first | exact lk F0 | exact fun _ => rfl | exact fun _ => ⟨_, _, _, rfl, by assumption⟩), (by first | exact lk F1 | exact fun _ => rfl | exact fun _ => ⟨_, _, _, rfl, by assumption⟩), (by first | exact lk F2 | exact fun _ => rfl | exact fun _ => ⟨_, _, _, rfl, by assumption⟩), (by first | exact lk F3 | exact fun _ => rfl | exact fun _ => ⟨_, _, _, rfl, by assumption⟩), (by first | exact lk F4 | exact fun _ => rfl | exact fun _ => ⟨_, _, _, rfl, by assumption⟩), (by first | exact lk F5 | exact fun _ => rfl | exact fun _ => ⟨_, _, _, rfl, by assumption⟩), fun _ => ⟨_, _, _, rfl, ha⟩, (by first | exact lk F7 | exact fun _ => rfl | exact fun _ => ⟨_, _, _, rfl, by assumption⟩), fun h => absurd (lself hnl) (by rw [h]; decide), (by first | exact kept_off E1 | exact fun _ => rfl), fun h => la (G1 (ls (by decide) h)), fun h => la (G2 (ls (by decide) h)), fun _ => la (G2 L2), fun h => la (G4 (ls (by decide) h)), fun h => la (G5 (ls (by decide) h)), fun h => la (G7 (ls (by decide) h)), rfl⟩
    · simp only [List.getElem?_toArray, List.getElem?_cons_zero, List.getElem?_cons_succ, Option.some.injEq] at ho
      subst ho
      have L5 := hdp ⟨5, .data⟩ (by simp) rfl
      obtain ⟨B', m', d', rfl, hb⟩ := F5 L5
      refine wpOp_step rfl (fun K hK => ?_)
      go_simp
      refine hK _ _ ?_
      exact ⟨_, _, _, _, _, _, _, _, rfl, (by first | exact lk F0 | exact fun _ => rfl | exact fun _ => ⟨_, _, _, rfl, by assumption⟩), (by first | exact lk F1 | exact fun _ => rfl | exact fun _ => ⟨_, _, _, rfl, by assumption⟩), (by first | exact lk F2 | exact fun _ => rfl | exact fun _ => ⟨_, _, _, rfl, by assumption⟩), (by first | exact lk F3 | exact fun _ => rfl | exact fun _ => ⟨_, _, _, rfl, by assumption⟩), (by first | exact lk F4 | exact fun _ => rfl | exact fun _ => ⟨_, _, _, rfl, by assumption⟩), (by first | exact lk F5 | exact fun _ => rfl | exact fun _ => ⟨_, _, _, rfl, by assumption⟩), (by first | exact lk F6 | exact fun _ => rfl | exact fun _ => ⟨_, _, _, rfl, by assumption⟩), fun _ => ⟨_, _, _, rfl, hb⟩, (by first | exact kept_off E0 | exact fun _ => rfl), fun h => absurd (lself hnl) (by rw [h]; decide), fun h => la (G1 (ls (by decide) h)), fun h => la (G2 (ls (by decide) h)), fun h => la (G6 (ls (by decide) h)), fun h => la (G4 (ls (by decide) h)), fun h => la (G5 (ls (by decide) h)), fun _ => la (G5 L5), rfl⟩
  · intro listed A w hall hI
    obtain ⟨s0, s1, s28, s29, s30, s31, s32, s33, rfl, F0, F1, F2, F3, F4, F5, F6, F7, E0, E1, G1, G2, G6, G4, G5, G7, rfl⟩ := hI
    obtain ⟨A', n', c', rfl, ha⟩ := F6 (hall 6 (by decide))
    obtain ⟨B', m', d', rfl, hb⟩ := F7 (hall 7 (by decide))
    exact hQ _ _ _ _ _ _ _ _ _ _ _ _ ha hb
end Go.Proofs.YtnkodafhjcjpjaaDoor
namespace Go.Proofs.YtnkodafhjcjpjaaDoor
open Go.RowKit Go.Lib
set_option maxRecDepth 100000
set_option maxHeartbeats 8000000
theorem canonL_drop_cons {L : List Tr} {t : Tr} {ts : List Tr} (h : dropC L = t :: ts) : canonL (plL L) = canon t.pl :: canonL (plL ts) := by
  rw [← dropC_canon L, h, plL, canonL, if_neg (by rw [kT_pl]; exact dropC_head h)]
theorem canonL_drop_nil {L : List Tr} (h : dropC L = []) : canonL (plL L) = [] := by
  rw [← dropC_canon L, h]; rfl
theorem rdp_back {P : Nat → Prop} {w w' : World} {B size n : Nat} {A : Option Addr} {xs : List Value} (h : RdP P w' size A n xs) (hP : ∀ b, P b → b < B) (hb : Below B w w') : RdP P w size A n xs :=
  h.keep (fun _ h => h) fun _p hp => (hb.cell (hP _ hp)).symm
theorem row_any (P : Nat → Prop) (A B : Option Addr) (n c n' c' fb : Nat) (ks ls : List Tr) (w : World) (hP : ∀ b, P b → b < w.heap.size) (hA : RdP P w 5 A n (rowT ks)) (hB : RdP P w 5 B n' (rowT ls))
    (hn : ks.length = n) (hn' : ls.length = n') (hnc : n ≤ c) (hc : c ≤ maxLen) (hnc' : n' ≤ c') (hc' : c' ≤ maxLen)
    (hS : ∀ t ∈ ks, ∀ u ∈ ls, ∀ w1, Below w.heap.size w w1 → Calls Tryd.prog 13 #[t.v, u.v, .pointer (some ⟨fb, 0, none⟩)] w1 fun e w' => ∃ r, e = .returned (.bool r) ∧ (r = true ↔ canon t.pl = canon u.pl) ∧ Below w1.heap.size w1 w') :
    Calls Tryd.prog 14 #[.slice A n c, .slice B n' c', fn fb] w fun e w' => ∃ r, e = .returned (.bool r) ∧ (r = true ↔ canonL (plL ks) = canonL (plL ls)) ∧ Below w.heap.size w w' := by
  have HA := Lib.hid hA; have HB := Lib.hid hB; have HN := Lib.hid hn; have HN' := Lib.hid hn'; have HP := Lib.hid hP; have HS := Lib.hid hS
  have CA := Lib.hid (counting_any P A n c ks w hA hn hnc hc)
  have CB := Lib.hid (counting_any P B n' c' ls w hB hn' hnc' hc')
  clear hA hB hP hS hn hn'
  go_enter Tryd.func14, Tryd.ntmps14
  go_wp2_with (go_at_call 25; first | (refine CA.out.mono ?_; rintro e w1 ⟨A1, n1, c1, rfl, hA1, hn1, hnc1, hc1, hw1⟩; obtain rfl := hw1.symm; have HA1 := Lib.hid hA1; have HN1 := Lib.hid hn1; clear hA1 hn1 CA) | (refine CB.out.mono ?_; rintro e w1 ⟨B1, m1, d1, rfl, hB1, hm1, hmc1, hd1, hw1⟩; obtain rfl := hw1.symm; have HB1 := Lib.hid hB1; have HM1 := Lib.hid hm1; clear hB1 hm1 CB))
  go_loopw [0, 1] (fun s0 s1 wx => ∃ (A' B' : Option Addr) (n' c' m' d' : Nat) (L M : List Tr), s0 = .slice A' n' c' ∧ s1 = .slice B' m' d' ∧ n' ≤ c' ∧ c' ≤ maxLen ∧ m' ≤ d' ∧ d' ≤ maxLen ∧ Hid (RdP P w 5 A' n' (rowT (dropC L))) ∧ Hid (RdP P w 5 B' m' (rowT (dropC M))) ∧ Hid ((dropC L).length = n') ∧ Hid ((dropC M).length = m') ∧ Hid (∀ t ∈ L, t ∈ ks) ∧ Hid (∀ t ∈ M, t ∈ ls) ∧ Hid (canonL (plL ks) = canonL (plL ls) ↔ canonL (plL L) = canonL (plL M)) ∧ Below w.heap.size w wx) (fun s0 _ _ => match s0 with | .slice _ n _ => n | _ => 0)
  case atStart => exact ⟨A1, B1, n1, c1, m1, d1, ks, ls, rfl, rfl, hnc1, hc1, hmc1, hd1, HA1, HB1, HN1, HM1, Lib.hid (fun _ h => h), Lib.hid (fun _ h => h), Lib.hid Iff.rfl, Below.refl _ _⟩
  case round =>
    obtain ⟨A', B', n', c', m', d', L, M, rfl, rfl, h1, h2, h3, h4, hA', hB', hL, hM, hks, hls, hE, hW⟩ := hrel
    clear HA1 HB1 HN1 HM1
    rcases hd : dropC L with _ | ⟨t, ts⟩
    · obtain rfl : n' = 0 := by have := hL.out; rw [hd] at this; simpa using this.symm
      have hcl := canonL_drop_nil hd
      have HR : Hid ((((0 : Nat) : Int) == (m' : Int)) = true ↔ canonL (plL ks) = canonL (plL ls)) := by
        refine Lib.hid ?_
        rw [hE.out, hcl]
        rcases hd2 : dropC M with _ | ⟨u, us⟩
        · have hm0 : m' = 0 := by have := hM.out; rw [hd2] at this; simpa using this.symm
          rw [canonL_drop_nil hd2, hm0]; simp
        · have hm0 : 0 < m' := by have := hM.out; rw [hd2] at this; simp at this; omega
          rw [canonL_drop_cons hd2]
          constructor
          · intro h; have : ((0 : Nat) : Int) = (m' : Int) := by simpa using h
            omega
          · intro h; cases h
      have g0 : decide (((0 : Nat) : Int) > 0) = false := by simp
      clear hd hcl
      go_wp2
      go_ret
      exact ⟨_, rfl, HR.out, hW⟩
    · rcases hd2 : dropC M with _ | ⟨u, us⟩
      · obtain rfl : m' = 0 := by have := hM.out; rw [hd2] at this; simpa using this.symm
        obtain ⟨n1, rfl⟩ : ∃ m, n' = m + 1 := ⟨ts.length, by have := hL.out; rw [hd] at this; simpa using this.symm⟩
        have HE : Hid (¬ canonL (plL ks) = canonL (plL ls)) := Lib.hid (fun e => by
          rw [hE.out, canonL_drop_cons hd, canonL_drop_nil hd2] at e
          cases e)
        have g0 : decide (((n1 + 1 : Nat) : Int) > 0) = true := by first | (simp; done) | (simp; omega)
        have g0' : decide ((0 : Int) < (n1 : Int) + 1) = true := by first | (simp; done) | (simp; omega)
        have g0'' : decide (0 < n1 + 1) = true := by simp
        have g1 : decide (((0 : Nat) : Int) > 0) = false := by simp
        have g2 : (((n1 + 1 : Nat) : Int) == ((0 : Nat) : Int)) = false := by simp; omega
        have g2' : ((n1 : Int) + 1 == 0) = false := by simp; omega
        clear hd hd2
        go_wp2
        go_ret
        exact ⟨false, rfl, ⟨(fun h => by cases h), fun h => absurd h HE.out⟩, hW⟩
      · rw [hd] at hA' hL
        rw [hd2] at hB' hM
        obtain ⟨n1, rfl⟩ : ∃ m, n' = m + 1 := ⟨ts.length, by have := hL.out; simpa using this.symm⟩
        obtain ⟨m1, rfl⟩ : ∃ m, m' = m + 1 := ⟨us.length, by have := hM.out; simpa using this.symm⟩
        have htk : t ∈ ks := hks.out t (dropC_sub L t (by rw [hd]; exact .head _))
        have hul : u ∈ ls := hls.out u (dropC_sub M u (by rw [hd2]; exact .head _))
        have HSU := Lib.hid (HS.out t htk u hul)
        have HC1 := Lib.hid (canonL_drop_cons hd)
        have HC2 := Lib.hid (canonL_drop_cons hd2)
        have HKS : Hid (∀ x ∈ ts, x ∈ ks) := Lib.hid fun x hx => hks.out x (dropC_sub L x (by rw [hd]; exact .tail _ hx))
        have HLS : Hid (∀ x ∈ us, x ∈ ls) := Lib.hid fun x hx => hls.out x (dropC_sub M x (by rw [hd2]; exact .tail _ hx))
        obtain ⟨tk, tn, tv, tA, tac, tps, tK, tkc, tks⟩ := t
        obtain ⟨uk, un, uv, uA, uac, ups, uK, ukc, uks⟩ := u
        obtain ⟨aa, rfl, hPa, a0, a1, a2, a3, a4⟩ := kid_at (i := 0) (hA'.out.below HP.out hW) rfl (by omega)
        obtain ⟨bb, rfl, hPb, b0, b1, b2, b3, b4⟩ := kid_at (i := 0) (hB'.out.below HP.out hW) rfl (by omega)
        rw [Nat.zero_mul, Addr.add_zero'] at a0 a1 a2 a3 a4 b0 b1 b2 b3 b4
        have hta := rdp_tail (c := c') hA'.out hL.out
        have htb := rdp_tail (c := d') hB'.out hM.out
        have HTA := Lib.hid (hta.resolve_right (by omega))
        have HTB := Lib.hid (htb.resolve_right (by omega))
        have HLT : Hid (ts.length = n1) := Lib.hid (by have := hL.out; simpa using this)
        have HLU : Hid (us.length = m1) := Lib.hid (by have := hM.out; simpa using this)
        have hba : aa.block < wr.heap.size := Nat.lt_of_lt_of_le (HP.out _ hPa) hW.size
        have hbb : bb.block < wr.heap.size := Nat.lt_of_lt_of_le (HP.out _ hPb) hW.size
        clear hta htb hPa hPb hd hd2 htk hul
        have g0 : decide (((n1 + 1 : Nat) : Int) > 0) = true := by first | (simp; done) | (simp; omega)
        have g0' : decide ((0 : Int) < (n1 : Int) + 1) = true := by first | (simp; done) | (simp; omega)
        have g0'' : decide (0 < n1 + 1) = true := by simp
        have g1' : decide ((0 : Int) < (m1 : Int) + 1) = true := by first | (simp; done) | (simp; omega)
        have g1'' : decide (0 < m1 + 1) = true := by simp
        go_upto_region 3 with fail
        refine Kid3_region wr fb (n1 + 1) c' (m1 + 1) d' aa bb (canon (Tr.mk tk tn tv tA tac tps tK tkc tks).pl = canon (Tr.mk uk un uv uA uac ups uK ukc uks).pl) _ _ _ _ _ _ _ _ _ _ _ _ _ _ _ _ _ _ _ _ _ _ _ _ _ _ _ _ _ _ _ _ _ _ _ _ _ _ _ _ _ _ _ _ _ _ _ (by omega) (by omega) h1 h3 h2 h4 hba hbb a0 b0 a1 b1 a2 b2 a3 b3 a4 b4 (fun w1 hb1 => HSU.out w1 (bt hW hb1)) ?_
        intro r W3 hr hb3
        have HR := Lib.hid hr
        have HW3 : Hid (Below w.heap.size w W3) := Lib.hid (bt hW hb3)
        clear hr hb3 a0 a1 a2 a3 a4 b0 b1 b2 b3 b4 hba hbb
        cases r with
        | false =>
          have HE : ¬ canonL (plL ks) = canonL (plL ls) := fun e => by
            rw [hE.out, HC1.out, HC2.out] at e
            injection e with e1 _
            cases HR.out.2 e1
          have HEE := Lib.hid HE
          clear HE
          go_wp2
          go_ret
          exact ⟨false, rfl, ⟨(fun h => by cases h), fun h => absurd h HEE.out⟩, HW3.out⟩
        | true =>
          have hQP := HP.out
          have hn1 : n1 ≤ c' - 1 := by omega
          have hm1 : m1 ≤ d' - 1 := by omega
          have hc1 : c' - 1 ≤ maxLen := by omega
          have hd1 : d' - 1 ≤ maxLen := by omega
          have HWD : Hid (Below w.heap.size w W3.drew) := Lib.hid (bdr HW3.out)
          have HCA := Lib.hid (counting_any P _ n1 (c' - 1) ts W3.drew (HTA.out.below HP.out HWD.out) HLT.out hn1 hc1)
          have HCB := Lib.hid (counting_any P _ m1 (d' - 1) us W3.drew (HTB.out.below HP.out HWD.out) HLU.out hm1 hd1)
          have HEQ : Hid (canonL (plL ks) = canonL (plL ls) ↔ canonL (plL ts) = canonL (plL us)) := Lib.hid (by
            rw [hE.out, HC1.out, HC2.out]
            constructor
            · intro e; injection e
            · intro e; rw [HR.out.1 rfl, e])
          clear hQP
          go_upto_region 5 with fail
          refine Both5_region W3 fb n1 c' m1 d' aa bb (fun A' n' c' => RdP P w 5 A' n' (rowT (dropC ts)) ∧ (dropC ts).length = n' ∧ n' ≤ c' ∧ c' ≤ maxLen) (fun A' n' c' => RdP P w 5 A' n' (rowT (dropC us)) ∧ (dropC us).length = n' ∧ n' ≤ c' ∧ c' ≤ maxLen) _ _ _ _ _ _ _ _ _ _ _ _ _ _ _ _ _ _ _ _ _ _ _ _ _ _ _ _ _ _ _ _ _ _ _ _ _ h1 h3 h2 h4
            (HCA.out.mono fun e w' ⟨A', n', c', q1, q2, q3, q4, q5, q6⟩ => ⟨A', n', c', q1, ⟨rdp_back q2 HP.out HWD.out, q3, q4, q5⟩, q6⟩)
            (HCB.out.mono fun e w' ⟨A', n', c', q1, q2, q3, q4, q5, q6⟩ => ⟨A', n', c', q1, ⟨rdp_back q2 HP.out HWD.out, q3, q4, q5⟩, q6⟩) ?_
          rintro A5 n5 c5 B5 m5 d5 _ _ _ _ _ _ ⟨hA5, hn5, hnc5, hc5⟩ ⟨hB5, hm5, hmd5, hd5⟩
          have HA5 := Lib.hid hA5; have HB5 := Lib.hid hB5; have HN5 := Lib.hid hn5; have HM5 := Lib.hid hm5
          have hlt : n5 < n1 + 1 := by have := dropC_len ts; have := HLT.out; omega
          clear hA5 hB5 hn5 hm5 HCA HCB HTA HTB
          go_wp2
          go_roundw
          case rel => exact ⟨A5, B5, n5, c5, m5, d5, ts, us, rfl, rfl, hnc5, hc5, hmd5, hd5, HA5, HB5, HN5, HM5, HKS, HLS, HEQ, HWD.out⟩
          case measure => simpa using hlt
end Go.Proofs.YtnkodafhjcjpjaaDoor
namespace Go.Proofs.YtnkodafhjcjpjaaDoor
open Go.RowKit Go.Lib
set_option maxRecDepth 100000
set_option maxHeartbeats 8000000
theorem ba_ne {a b : List UInt8} (h : a ≠ b) : ((ba' a).toList == (ba' b).toList) = false := by
  have e : ∀ x : List UInt8, (ba' x).toList = x := fun x => by
    simp [ba']
  rw [e, e]
  simpa using h
/-- A word yes or no about φ, with new memory alone. -/
def Tells (φ : Prop) (w : World) (e : Ending) (w' : World) : Prop := ∃ r, e = .returned (.bool r) ∧ (r = true ↔ φ) ∧ Below w.heap.size w w'
theorem Tells.yes {φ : Prop} {w w' : World} (h : φ) (hb : Below w.heap.size w w') : Tells φ w (.returned (.bool true)) w' := ⟨true, rfl, ⟨fun _ => h, fun _ => rfl⟩, hb⟩
theorem Tells.no {φ : Prop} {w w' : World} (h : ¬ φ) (hb : Below w.heap.size w w') : Tells φ w (.returned (.bool false)) w' := ⟨false, rfl, ⟨(fun h => by cases h), fun h' => absurd h' h⟩, hb⟩
theorem Tells.it {φ : Prop} {w w' : World} {r : Bool} (h : r = true ↔ φ) (hb : Below w.heap.size w w') : Tells φ w (.returned (.bool r)) w' := ⟨r, rfl, h, hb⟩
theorem size_pairs {k : Int} {n v : List UInt8} {A : Option Addr} {ac : Nat} {ps : List (List UInt8 × List UInt8)} {K : Option Addr} {kc : Nat} {ks : List Tr} (h : (Tr.mk k n v A ac ps K kc ks).pl.fit) : ps.length ≤ 1048576 := (fit_fields h).2.2.1
/-- What is to be answered at one kind. -/
def sameAt (k : Int) (n v : List UInt8) (ps : List (List UInt8 × List UInt8)) (ks : List PT) (n' v' : List UInt8) (ps' : List (List UInt8 × List UInt8)) (ks' : List PT) : Prop :=
  canon (.mk k n v ps ks) = canon (.mk k n' v' ps' ks')
theorem same_any : ∀ (t u : Tr) (P : Nat → Prop) (w : World) (fb : Nat), t.In P w → u.In P w → (∀ b, P b → b < w.heap.size) → t.pl.fit → u.pl.fit → t.Caps → u.Caps → w.cell? ⟨fb, 0, none⟩ = some (fn fb) →
    Calls Tryd.prog 13 #[t.v, u.v, .pointer (some ⟨fb, 0, none⟩)] w fun e w' => Tells (canon t.pl = canon u.pl) w e w' := by
  intro t
  induction t using Tr.ind with
  | h k n v A ac ps K kc ks ih =>
  intro u
  obtain ⟨k', n', v', A', ac', ps', K', kc', ks'⟩ := u
  intro P w fb hT hU hP hft hfu hct hcu hfb
  have HT := Lib.hid hT; have HU := Lib.hid hU; have HP := Lib.hid hP; have HFT := Lib.hid hft; have HFU := Lib.hid hfu
  have hfbl : fb < w.heap.size := World.block_lt_of_cell? w _ hfb
  have HROW : Hid (∀ w1, Below w.heap.size w w1 → Calls Tryd.prog 14 #[.slice K ks.length kc, .slice K' ks'.length kc', fn fb] w1 fun e w' => ∃ r, e = .returned (.bool r) ∧ (r = true ↔ canonL (plL ks) = canonL (plL ks')) ∧ Below w1.heap.size w1 w') := Lib.hid fun w1 hb1 =>
    row_any P K K' ks.length kc ks'.length kc' fb ks ks' w1 (fun b hb => Nat.lt_of_lt_of_le (hP b hb) hb1.size) (RdP.below hT.2.1 hP hb1) (RdP.below hU.2.1 hP hb1) rfl rfl hct.1 hct.2.1 hcu.1 hcu.2.1
      (fun t ht u hu w2 hb2 => ih t ht u P w2 fb (((inL_iff.1 hT.2.2 t ht).below hP hb1).below (fun b hb => Nat.lt_of_lt_of_le (hP b hb) hb1.size) hb2) (((inL_iff.1 hU.2.2 u hu).below hP hb1).below (fun b hb => Nat.lt_of_lt_of_le (hP b hb) hb1.size) hb2)
        (fun b hb => Nat.lt_of_lt_of_le (Nat.lt_of_lt_of_le (hP b hb) hb1.size) hb2.size) (fit_kid hft t ht) (fit_kid hfu u hu) (capsL_mem hct.2.2 t ht) (capsL_mem hcu.2.2 u hu) (read_below (read_below hfb hfbl hb1) (Nat.lt_of_lt_of_le hfbl hb1.size) hb2))
  have HPAIR : Hid (∀ w1, Below w.heap.size w w1 → Calls Tryd.prog 15 #[.slice A ps.length ac, .slice A' ps'.length ac'] w1 fun e w' => ∃ r, e = .returned (.bool r) ∧ (r = true ↔ cntP ps = cntP ps') ∧ Below w1.heap.size w1 w') := Lib.hid fun w1 hb1 =>
    pairs_any P A A' ps.length ac ps'.length ac' ps ps' w1 (fun b hb => Nat.lt_of_lt_of_le (hP b hb) hb1.size) (RdP.below hT.1 hP hb1) (RdP.below hU.1 hP hb1) rfl rfl (size_pairs hft) (fit_pairs hft) (fit_pairs hfu)
  clear ih hT hU hP hft hfu hct hcu
  show Calls Tryd.prog 13 #[.agg #[.int .i64 k, .string (ba' n), .string (ba' v), .slice A ps.length ac, .slice K ks.length kc], .agg #[.int .i64 k', .string (ba' n'), .string (ba' v'), .slice A' ps'.length ac', .slice K' ks'.length kc'], .pointer (some ⟨fb, 0, none⟩)] w _
  go_enter Tryd.func13, Tryd.ntmps13
  by_cases hk : k = k'
  · subst hk
    have HCI := Lib.hid (canon_iff k n v ps (plL ks) n' v' ps' (plL ks'))
    have g : (k != k) = false := by simp
    by_cases k1 : k = 1
    · subst k1
      rw [if_pos rfl] at HCI
      go_wp2_with (go_at_call 14; go_must (refine (HROW.out _ (ba (ba (Below.refl _ _)))).mono ?_); rintro e w1 ⟨r, rfl, hr, hb⟩; have HR := Lib.hid hr; have HB := Lib.hid hb; clear hr hb)
      go_ret
      exact Tells.it (HR.out.trans HCI.out.symm) (bt (ba (ba (Below.refl _ _))) HB.out)
    rw [if_neg k1] at HCI
    have g1 : (k == 1) = false := by simpa using k1
    by_cases k2 : k = 2
    · subst k2
      rw [if_pos rfl] at HCI
      by_cases hn : n = n'
      · subst hn
        go_wp2_with (first | (go_at_call 15; go_must (refine (HPAIR.out _ (ba (ba (Below.refl _ _)))).mono ?_); rintro e w1 ⟨r, rfl, hr, hb⟩; have HR := Lib.hid hr; have HB : Hid (Below w.heap.size w w1) := Lib.hid (bt (ba (ba (Below.refl _ _))) hb); have B3 := fun o => World.cell?_of_block (a := ⟨w.heap.size, o, none⟩) (hb.block w.heap.size (by simp; omega)); have B4 := fun o => World.cell?_of_block (a := ⟨w.heap.size + 1, o, none⟩) (hb.block (w.heap.size + 1) (by first | (simp; done) | (simp; omega))); have hfb1 := read_below hfb hfbl HB.out; clear hr hb; cases r) | (go_at_call 14; go_must (refine (HROW.out _ HB.out).mono ?_); rintro e w2 ⟨r, rfl, hr2, hb2⟩; have HR2 := Lib.hid hr2; have HB2 := Lib.hid hb2; clear hr2 hb2))
        · go_ret
          exact Tells.no (fun h => by have := HR.out.2 (HCI.out.1 h).2.1; cases this) HB.out
        · go_ret
          exact Tells.it ⟨fun h => HCI.out.2 ⟨by simp, HR.out.1 (by simp), HR2.out.1 h⟩, fun h => HR2.out.2 (HCI.out.1 h).2.2⟩ (bt HB.out HB2.out)
      · have hb : ((ba' n).toList == (ba' n').toList) = false := ba_ne hn
        have HE : Hid (¬ (n = n' ∧ cntP ps = cntP ps' ∧ canonL (plL ks) = canonL (plL ks'))) := Lib.hid fun h => hn h.1
        clear hn
        go_wp2
        go_ret
        exact Tells.no (fun h => HE.out (HCI.out.1 h)) (ba (ba (Below.refl _ _)))
    rw [if_neg k2] at HCI
    have g2 : (k == 2) = false := by simpa using k2
    by_cases k3 : k = 3
    · subst k3
      rw [if_pos rfl] at HCI
      by_cases hn : n = n'
      · subst hn
        by_cases hv : v = v'
        · subst hv
          go_wp2
          go_ret
          exact Tells.yes (HCI.out.2 (by simp)) (ba (ba (Below.refl _ _)))
        · have hb : ((ba' v).toList == (ba' v').toList) = false := ba_ne hv
          have HE := Lib.hid hv
          clear hv
          go_wp2
          go_ret
          exact Tells.no (fun h => HE.out (HCI.out.1 h).2) (ba (ba (Below.refl _ _)))
      · have hb : ((ba' n).toList == (ba' n').toList) = false := ba_ne hn
        have HE := Lib.hid hn
        clear hn
        go_wp2
        go_ret
        exact Tells.no (fun h => HE.out (HCI.out.1 h).1) (ba (ba (Below.refl _ _)))
    rw [if_neg k3] at HCI
    have g3 : (k == 3) = false := by simpa using k3
    by_cases k45 : k = 4 ∨ k = 5
    · rw [if_pos k45] at HCI
      by_cases hv : v = v'
      · subst hv
        rcases k45 with rfl | rfl
        · go_wp2
          go_ret
          exact Tells.yes (HCI.out.2 (by simp)) (ba (ba (Below.refl _ _)))
        · go_wp2
          go_ret
          exact Tells.yes (HCI.out.2 (by simp)) (ba (ba (Below.refl _ _)))
      · have hb : ((ba' v).toList == (ba' v').toList) = false := ba_ne hv
        have HE := Lib.hid hv
        clear hv
        rcases k45 with rfl | rfl
        · go_wp2
          go_ret
          exact Tells.no (fun h => HE.out (HCI.out.1 h)) (ba (ba (Below.refl _ _)))
        · go_wp2
          go_ret
          exact Tells.no (fun h => HE.out (HCI.out.1 h)) (ba (ba (Below.refl _ _)))
    · rw [if_neg k45] at HCI
      have g4 : (k == 4) = false := by simpa using fun e => k45 (.inl e)
      have g5 : (k == 5) = false := by simpa using fun e => k45 (.inr e)
      clear k1 k2 k3 k45
      go_wp2
      go_ret
      exact Tells.yes (HCI.out.2 trivial) (ba (ba (Below.refl _ _)))
  · have g : (k != k') = true := by simpa using hk
    go_wp2
    go_ret
    exact Tells.no (fun h => hk (canon_kinds h)) (ba (ba (Below.refl _ _)))
end Go.Proofs.YtnkodafhjcjpjaaDoor
namespace Go.Proofs.YtnkodafhjcjpjaaDoor
open Go.RowKit Go.Lib
set_option maxRecDepth 100000
set_option maxHeartbeats 8000000
theorem new_cell1 (w : World) (v : Value) : (w.alloc (.cells #[v] 30)).cell? ⟨w.heap.size, 0, none⟩ = some v := by simp
theorem new_cell2 (w : World) (o o' : Obj) (v : Value) : (((w.alloc o).alloc o').alloc (.cells #[v] 30)).cell? ⟨w.heap.size + 1 + 1, 0, none⟩ = some v := by
  have h := new_cell1 ((w.alloc o).alloc o') v
  have e : ((w.alloc o).alloc o').heap.size = w.heap.size + 1 + 1 := by simp
  rw [e] at h
  exact h
theorem trees_any (t u : Tr) (P : Nat → Prop) (w : World) (hT : t.In P w) (hU : u.In P w) (hP : ∀ b, P b → b < w.heap.size) (hft : t.pl.fit) (hfu : u.pl.fit) (hct : t.Caps) (hcu : u.Caps) :
    Calls Tryd.prog 7 #[t.v, u.v] w fun e w' => Tells (canon t.pl = canon u.pl) w e w' := by
  have HS : Hid (∀ w1 fb, Below w.heap.size w w1 → w1.cell? ⟨fb, 0, none⟩ = some (fn fb) → Calls Tryd.prog 13 #[t.v, u.v, .pointer (some ⟨fb, 0, none⟩)] w1 fun e w' => Tells (canon t.pl = canon u.pl) w1 e w') := Lib.hid fun w1 fb hb h =>
    same_any t u P w1 fb (hT.below hP hb) (hU.below hP hb) (fun b hb' => Nat.lt_of_lt_of_le (hP b hb') hb.size) hft hfu hct hcu h
  clear hT hU hP hft hfu hct hcu
  obtain ⟨k, n, v, A, ac, ps, K, kc, ks⟩ := t
  obtain ⟨k', n', v', A', ac', ps', K', kc', ks'⟩ := u
  show Calls Tryd.prog 7 #[.agg #[.int .i64 k, .string (ba' n), .string (ba' v), .slice A ps.length ac, .slice K ks.length kc], .agg #[.int .i64 k', .string (ba' n'), .string (ba' v'), .slice A' ps'.length ac', .slice K' ks'.length kc']] w _
  go_enter Tryd.func7, Tryd.ntmps7
  go_wp2_with (go_at_call 13; go_must (refine (HS.out _ (w.heap.size + 1 + 1) (by repeat (with_reducible (first | exact Below.refl _ _ | apply ba | (refine bs ?_ (by first | (simp; done) | (simp; omega)))))) (new_cell2 _ _ _ _)).mono ?_); rintro e w1 ⟨r, rfl, hr, hb⟩; have HR := Lib.hid hr; have HB := Lib.hid hb; clear hr hb)
  go_ret
  exact Tells.it HR.out (bt (ba (ba (ba (Below.refl _ _)))) HB.out)
end Go.Proofs.YtnkodafhjcjpjaaDoor
