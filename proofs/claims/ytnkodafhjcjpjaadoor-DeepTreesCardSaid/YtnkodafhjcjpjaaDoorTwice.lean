/- The statement DeepTrees copies both trees: a region that draws its order. No condition beyond what the theorems state. -/
import Derived.Test.YtnkodafhjcjpjaaDoorDeep
import Derived.Test.YtnkodafhjcjpjaaDoorWords
import Derived.Test.YtnkodafhjcjpjaaDoorCopies
import Derived.Test.YtnkodafhjcjpjaaDoorMerges
namespace Go.Proofs.YtnkodafhjcjpjaaDoor
open Go.RowKit Go.Lib
set_option maxRecDepth 100000
set_option maxHeartbeats 8000000
/-- A block, known whole. -/
def Blk (w : World) (g : Nat) (cs : Array Value) : Prop := w.heap[g]? = some (.cells cs 26 (0, 0))
theorem Blk.lt {w : World} {g : Nat} {cs : Array Value} (h : Blk w g cs) : g < w.heap.size := (Array.getElem?_eq_some_iff.1 h).1
theorem Blk.cell {w : World} {g : Nat} {cs : Array Value} (h : Blk w g cs) (i : Nat) : w.cell? ⟨g, i, none⟩ = cs[i]? := Lib.cell_of_heap h i
theorem Blk.frozen {w : World} {g : Nat} {cs : Array Value} (h : Blk w g cs) (i : Nat) : w.frozen? ⟨g, i, none⟩ = false := Lib.frozen_of_heap h i
theorem Blk.new (w : World) (cs : Array Value) : Blk (w.alloc (.cells cs 26)) w.heap.size cs := heap_alloc_new w _
theorem Blk.alloc {w : World} {g : Nat} {cs : Array Value} (h : Blk w g cs) (o : Obj) : Blk (w.alloc o) g cs := (Below.heap_alloc w o g h.lt).trans h
theorem Blk.set_ {w : World} {g : Nat} {cs : Array Value} (h : Blk w g cs) (i : Nat) (u : Value) : Blk (w.setCell ⟨g, i, none⟩ u) g (cs.setIfInBounds i u) := heap_setCell_same w g i cs 26 u h
theorem Blk.far {w : World} {g : Nat} {cs : Array Value} (h : Blk w g cs) {p : Addr} (hp : g ≠ p.block) (u : Value) : Blk (w.setCell p u) g cs := (Below.heap_setCell w p u g hp).trans h
theorem Blk.below {w w' : World} {g : Nat} {cs : Array Value} (h : Blk w g cs) (hb : Below w.heap.size w w') : Blk w' g cs := (hb.block g h.lt).trans h
def ptr (g : Nat) : Value := .pointer (some ⟨g, 0, none⟩)
def RcJ (W : World) (ga gb : Nat) (k1 : Int) (n1 v1 : ByteArray) (A1 : Option Addr) (np1 ac1 : Nat) (K1 : Option Addr) (nk1 kc1 : Nat) (k2 : Int) (n2 v2 : ByteArray) (A2 : Option Addr) (np2 ac2 : Nat) (K2 : Option Addr) (nk2 kc2 : Nat) (Cx Cy : Tr → Prop) (c0 c1 c4 c7 c8 c9 c10 c11 c12 c13 c14 c15 c16 c21 c22 c23 c24 c25 c26 c27 c28 c29 c30 c31 c32 c33 c34 c35 c36 c37 : Value) (l : Nat → Prop) (A : Act) (w : World) : Prop :=
  ∃ (s5 s6 s17 s18 s19 s20 : Value) (x y : Tr) (gx gy : Nat) (cx cy : Array Value), A = { tmps := #[c0, c1, .pointer (some ⟨ga, 0, none⟩), .pointer (some ⟨gb, 0, none⟩), c4, s5, s6, c7, c8, c9, c10, c11, c12, c13, c14, c15, c16, s17, s18, s19, s20, c21, c22, c23, c24, c25, c26, c27, c28, c29, c30, c31, c32, c33, c34, c35, c36, c37], defers := [] } ∧
  (l 0 → s17 = .agg #[.int .i64 k1, .string n1, .string v1, .slice A1 np1 ac1, .slice K1 nk1 kc1]) ∧ (l 2 → s19 = .agg #[.int .i64 k2, .string n2, .string v2, .slice A2 np2 ac2, .slice K2 nk2 kc2]) ∧
  (l 1 → s18 = x.v ∧ Cx x ∧ x.In (fun b => b < w.heap.size ∧ (l 4 → b ≠ gx) ∧ (l 5 → b ≠ gy)) w) ∧
  (l 3 → s20 = y.v ∧ Cy y ∧ y.In (fun b => b < w.heap.size ∧ (l 4 → b ≠ gx) ∧ (l 5 → b ≠ gy)) w) ∧
  (l 4 → s5 = .pointer (some ⟨gx, 0, none⟩) ∧ W.heap.size ≤ gx ∧ Blk w gx cx ∧ cx.size = 5 ∧ (l 6 → cx = x.cells.toArray)) ∧
  (l 5 → s6 = .pointer (some ⟨gy, 0, none⟩) ∧ W.heap.size ≤ gy ∧ Blk w gy cy ∧ cy.size = 5 ∧ (l 7 → cy = y.cells.toArray)) ∧
  (l 4 → l 5 → gx ≠ gy) ∧ Below W.heap.size W w ∧ ((l 6 → l 1) ∧ (l 7 → l 3) ∧ (l 6 → l 4) ∧ (l 7 → l 5))
theorem five_of {a : Array Value} (h : a.size = 5) : ∃ v0 v1 v2 v3 v4, a = #[v0, v1, v2, v3, v4] := by
  obtain ⟨l⟩ := a
  match l, h with
  | [v0, v1, v2, v3, v4], _ => exact ⟨v0, v1, v2, v3, v4, rfl⟩
theorem Rc_region (W : World) (ga gb : Nat) (k1 : Int) (n1 v1 : ByteArray) (A1 : Option Addr) (np1 ac1 : Nat) (K1 : Option Addr) (nk1 kc1 : Nat) (k2 : Int) (n2 v2 : ByteArray) (A2 : Option Addr) (np2 ac2 : Nat) (K2 : Option Addr) (nk2 kc2 : Nat) (Cx Cy : Tr → Prop) (c0 c1 c4 c7 c8 c9 c10 c11 c12 c13 c14 c15 c16 c21 c22 c23 c24 c25 c26 c27 c28 c29 c30 c31 c32 c33 c34 c35 c36 c37 : Value) (z5 z6 z17 z18 z19 z20 : Value) (Q : Exit → Act → World → Prop)
    (hga0 : W.cell? ⟨ga, 0, none⟩ = some (.int .i64 k1))
    (hga1 : W.cell? ⟨ga, 1, none⟩ = some (.string n1))
    (hga2 : W.cell? ⟨ga, 2, none⟩ = some (.string v1))
    (hga3 : W.cell? ⟨ga, 3, none⟩ = some (.slice A1 np1 ac1))
    (hga4 : W.cell? ⟨ga, 4, none⟩ = some (.slice K1 nk1 kc1))
    (hgb0 : W.cell? ⟨gb, 0, none⟩ = some (.int .i64 k2))
    (hgb1 : W.cell? ⟨gb, 1, none⟩ = some (.string n2))
    (hgb2 : W.cell? ⟨gb, 2, none⟩ = some (.string v2))
    (hgb3 : W.cell? ⟨gb, 3, none⟩ = some (.slice A2 np2 ac2))
    (hgb4 : W.cell? ⟨gb, 4, none⟩ = some (.slice K2 nk2 kc2))
    (hC1 : ∀ w1, Below W.heap.size W w1 → Calls Tryd.prog 6 #[.agg #[.int .i64 k1, .string n1, .string v1, .slice A1 np1 ac1, .slice K1 nk1 kc1]] w1 fun e w' => ∃ x : Tr, e = .returned x.v ∧ Cx x ∧ x.In (NewB w1 w') w' ∧ Below w1.heap.size w1 w')
    (hC2 : ∀ w1, Below W.heap.size W w1 → Calls Tryd.prog 6 #[.agg #[.int .i64 k2, .string n2, .string v2, .slice A2 np2 ac2, .slice K2 nk2 kc2]] w1 fun e w' => ∃ x : Tr, e = .returned x.v ∧ Cy x ∧ x.In (NewB w1 w') w' ∧ Below w1.heap.size w1 w')
    (hQ : ∀ (x y : Tr) (gx gy : Nat) (w' : World), Cx x → Cy y → x.In (fun b => b < w'.heap.size) w' → y.In (fun b => b < w'.heap.size) w' → Blk w' gx x.cells.toArray → Blk w' gy y.cells.toArray → W.heap.size ≤ gx → W.heap.size ≤ gy → Below W.heap.size W w' →
      Q .normal { tmps := #[c0, c1, .pointer (some ⟨ga, 0, none⟩), .pointer (some ⟨gb, 0, none⟩), c4, .pointer (some ⟨gx, 0, none⟩), .pointer (some ⟨gy, 0, none⟩), c7, c8, c9, c10, c11, c12, c13, c14, c15, c16, .agg #[.int .i64 k1, .string n1, .string v1, .slice A1 np1 ac1, .slice K1 nk1 kc1], x.v, .agg #[.int .i64 k2, .string n2, .string v2, .slice A2 np2 ac2, .slice K2 nk2 kc2], y.v, c21, c22, c23, c24, c25, c26, c27, c28, c29, c30, c31, c32, c33, c34, c35, c36, c37], defers := [] } w') :
    Code.wp Tryd.prog ((Tryd.f3.body.bind (regionOf 3)).getD .skip) Q { tmps := #[c0, c1, .pointer (some ⟨ga, 0, none⟩), .pointer (some ⟨gb, 0, none⟩), c4, z5, z6, c7, c8, c9, c10, c11, c12, c13, c14, c15, c16, z17, z18, z19, z20, c21, c22, c23, c24, c25, c26, c27, c28, c29, c30, c31, c32, c33, c34, c35, c36, c37], defers := [] } W := by
  have HC1 := Lib.hid hC1
  have HC2 := Lib.hid hC2
  have hga : ga < W.heap.size := World.block_lt_of_cell? W _ hga0
  have hgb : gb < W.heap.size := World.block_lt_of_cell? W _ hgb0
  clear hC1 hC2
  conv => arg 2; whnf
  refine wp_region_inv (by kernel_rfl) (by kernel_rfl) (fun listed A w => RcJ W ga gb k1 n1 v1 A1 np1 ac1 K1 nk1 kc1 k2 n2 v2 A2 np2 ac2 K2 nk2 kc2 Cx Cy c0 c1 c4 c7 c8 c9 c10 c11 c12 c13 c14 c15 c16 c21 c22 c23 c24 c25 c26 c27 c28 c29 c30 c31 c32 c33 c34 c35 c36 c37 (fun j => listed.getD j false = true) A w) ?_ ?_ ?_
  · exact ⟨_, _, _, _, _, _, .mk 0 [] [] none 0 [] none 0 [], .mk 0 [] [] none 0 [] none 0 [], 0, 0, #[], #[], rfl, fun h => absurd h l0, fun h => absurd h l0, fun h => absurd h l0, fun h => absurd h l0, fun h => absurd h l0, fun h => absurd h l0, fun h => absurd h l0, bdr (Below.refl _ _), fun h => absurd h l0, fun h => absurd h l0, fun h => absurd h l0, fun h => absurd h l0⟩
  · intro i o listed A w hi ho hdp hnl hI
    obtain ⟨s5, s6, s17, s18, s19, s20, x, y, gx, gy, cx, cy, rfl, F0, F2, F1, F3, F4, F5, F45, FB, GX⟩ := hI
    have hi' : i < 8 := hi
    clear hi
    have lm : ∀ j, j ≠ i → (listed.setIfInBounds i true).getD j false = true → listed.getD j false = true := fun j hj h => ls (fun e => hj e.symm) h
    have lno : ¬ listed.getD i false = true := by rw [lf hnl]; decide
    rcases (by omega : i = 0 ∨ i = 1 ∨ i = 2 ∨ i = 3 ∨ i = 4 ∨ i = 5 ∨ i = 6 ∨ i = 7) with rfl | rfl | rfl | rfl | rfl | rfl | rfl | rfl
    · simp only [List.getElem?_toArray, List.getElem?_cons_zero, Option.some.injEq] at ho
      subst ho
      have e0 := (FB.cell (p := ⟨ga, 0, none⟩) hga).trans hga0
      have e1 := (FB.cell (p := ⟨ga, 1, none⟩) hga).trans hga1
      have e2 := (FB.cell (p := ⟨ga, 2, none⟩) hga).trans hga2
      have e3 := (FB.cell (p := ⟨ga, 3, none⟩) hga).trans hga3
      have e4 := (FB.cell (p := ⟨ga, 4, none⟩) hga).trans hga4
      refine wpOp_step rfl (fun K hK => ?_)
      go_simp
      refine hK _ _ ?_
      refine ⟨_, _, _, _, _, _, x, y, gx, gy, cx, cy, rfl, ?_, ?_, ?_, ?_, ?_, ?_, ?_, ?_, ?_⟩
      · exact fun _ => rfl
      · exact fun h => F2 (lm _ (by decide) h)
      · exact fun h => ⟨(F1 (lm _ (by decide) h)).1, (F1 (lm _ (by decide) h)).2.1, (F1 (lm _ (by decide) h)).2.2.keep (fun b hb => ⟨hb.1, fun h4 => hb.2.1 (lm _ (by decide) h4), fun h5 => hb.2.2 (lm _ (by decide) h5)⟩) (fun _ _ => rfl)⟩
      · exact fun h => ⟨(F3 (lm _ (by decide) h)).1, (F3 (lm _ (by decide) h)).2.1, (F3 (lm _ (by decide) h)).2.2.keep (fun b hb => ⟨hb.1, fun h4 => hb.2.1 (lm _ (by decide) h4), fun h5 => hb.2.2 (lm _ (by decide) h5)⟩) (fun _ _ => rfl)⟩
      · exact fun h => ⟨(F4 (lm _ (by decide) h)).1, (F4 (lm _ (by decide) h)).2.1, (F4 (lm _ (by decide) h)).2.2.1, (F4 (lm _ (by decide) h)).2.2.2.1, fun h6 => (F4 (lm _ (by decide) h)).2.2.2.2 (lm _ (by decide) h6)⟩
      · exact fun h => ⟨(F5 (lm _ (by decide) h)).1, (F5 (lm _ (by decide) h)).2.1, (F5 (lm _ (by decide) h)).2.2.1, (F5 (lm _ (by decide) h)).2.2.2.1, fun h7 => (F5 (lm _ (by decide) h)).2.2.2.2 (lm _ (by decide) h7)⟩
      · exact fun h4 h5 => F45 (lm _ (by decide) h4) (lm _ (by decide) h5)
      · exact FB
      · exact ⟨fun h => la (GX.1 (lm _ (by decide) h)), fun h => la (GX.2.1 (lm _ (by decide) h)), fun h => la (GX.2.2.1 (lm _ (by decide) h)), fun h => la (GX.2.2.2 (lm _ (by decide) h))⟩
    · have G6 : listed.getD 6 false = true → listed.getD 1 false = true := GX.1
      simp only [List.getElem?_toArray, List.getElem?_cons_zero, List.getElem?_cons_succ, Option.some.injEq] at ho
      subst ho
      have L0 := hdp ⟨0, .data⟩ (by simp) rfl
      obtain rfl := F0 L0
      have HFB := Lib.hid FB
      refine wpOp_step rfl (fun K hK => ?_)
      go_simp
      go_at_call 6
      refine (HC1.out w HFB.out).mono ?_
      rintro e' w' ⟨q, rfl, hq, hqi, hb'⟩
      refine hK _ _ ?_
      have hbs := hb'.size
      refine ⟨_, _, _, _, _, _, q, y, gx, gy, cx, cy, rfl, ?_, ?_, ?_, ?_, ?_, ?_, ?_, ?_, ?_⟩
      · exact fun h => F0 (lm _ (by decide) h)
      · exact fun h => F2 (lm _ (by decide) h)
      · exact fun _ => ⟨rfl, hq, hqi.keep (fun b hb => ⟨hb.2, fun h4 => by have := ((F4 (lm _ (by decide) h4)).2.2.1).lt; have := hb.1; omega, fun h5 => by have := ((F5 (lm _ (by decide) h5)).2.2.1).lt; have := hb.1; omega⟩) (fun _ _ => rfl)⟩
      · exact fun h => ⟨(F3 (lm _ (by decide) h)).1, (F3 (lm _ (by decide) h)).2.1, (F3 (lm _ (by decide) h)).2.2.keep (fun b hb => ⟨Nat.lt_of_lt_of_le hb.1 hbs, fun h4 => hb.2.1 (lm _ (by decide) h4), fun h5 => hb.2.2 (lm _ (by decide) h5)⟩) (fun p hp => hb'.cell hp.1)⟩
      · exact fun h => ⟨(F4 (lm _ (by decide) h)).1, (F4 (lm _ (by decide) h)).2.1, ((F4 (lm _ (by decide) h)).2.2.1).below hb', (F4 (lm _ (by decide) h)).2.2.2.1, fun h6 => absurd (G6 (lm _ (by decide) h6)) lno⟩
      · exact fun h => ⟨(F5 (lm _ (by decide) h)).1, (F5 (lm _ (by decide) h)).2.1, ((F5 (lm _ (by decide) h)).2.2.1).below hb', (F5 (lm _ (by decide) h)).2.2.2.1, fun h7 => (F5 (lm _ (by decide) h)).2.2.2.2 (lm _ (by decide) h7)⟩
      · exact fun h4 h5 => F45 (lm _ (by decide) h4) (lm _ (by decide) h5)
      · exact bt FB hb'
      · exact ⟨fun _ => lself hnl, fun h => la (GX.2.1 (lm _ (by decide) h)), fun h => la (GX.2.2.1 (lm _ (by decide) h)), fun h => la (GX.2.2.2 (lm _ (by decide) h))⟩
    · simp only [List.getElem?_toArray, List.getElem?_cons_zero, List.getElem?_cons_succ, Option.some.injEq] at ho
      subst ho
      have e0 := (FB.cell (p := ⟨gb, 0, none⟩) hgb).trans hgb0
      have e1 := (FB.cell (p := ⟨gb, 1, none⟩) hgb).trans hgb1
      have e2 := (FB.cell (p := ⟨gb, 2, none⟩) hgb).trans hgb2
      have e3 := (FB.cell (p := ⟨gb, 3, none⟩) hgb).trans hgb3
      have e4 := (FB.cell (p := ⟨gb, 4, none⟩) hgb).trans hgb4
      refine wpOp_step rfl (fun K hK => ?_)
      go_simp
      refine hK _ _ ?_
      refine ⟨_, _, _, _, _, _, x, y, gx, gy, cx, cy, rfl, ?_, ?_, ?_, ?_, ?_, ?_, ?_, ?_, ?_⟩
      · exact fun h => F0 (lm _ (by decide) h)
      · exact fun _ => rfl
      · exact fun h => ⟨(F1 (lm _ (by decide) h)).1, (F1 (lm _ (by decide) h)).2.1, (F1 (lm _ (by decide) h)).2.2.keep (fun b hb => ⟨hb.1, fun h4 => hb.2.1 (lm _ (by decide) h4), fun h5 => hb.2.2 (lm _ (by decide) h5)⟩) (fun _ _ => rfl)⟩
      · exact fun h => ⟨(F3 (lm _ (by decide) h)).1, (F3 (lm _ (by decide) h)).2.1, (F3 (lm _ (by decide) h)).2.2.keep (fun b hb => ⟨hb.1, fun h4 => hb.2.1 (lm _ (by decide) h4), fun h5 => hb.2.2 (lm _ (by decide) h5)⟩) (fun _ _ => rfl)⟩
      · exact fun h => ⟨(F4 (lm _ (by decide) h)).1, (F4 (lm _ (by decide) h)).2.1, (F4 (lm _ (by decide) h)).2.2.1, (F4 (lm _ (by decide) h)).2.2.2.1, fun h6 => (F4 (lm _ (by decide) h)).2.2.2.2 (lm _ (by decide) h6)⟩
      · exact fun h => ⟨(F5 (lm _ (by decide) h)).1, (F5 (lm _ (by decide) h)).2.1, (F5 (lm _ (by decide) h)).2.2.1, (F5 (lm _ (by decide) h)).2.2.2.1, fun h7 => (F5 (lm _ (by decide) h)).2.2.2.2 (lm _ (by decide) h7)⟩
      · exact fun h4 h5 => F45 (lm _ (by decide) h4) (lm _ (by decide) h5)
      · exact FB
      · exact ⟨fun h => la (GX.1 (lm _ (by decide) h)), fun h => la (GX.2.1 (lm _ (by decide) h)), fun h => la (GX.2.2.1 (lm _ (by decide) h)), fun h => la (GX.2.2.2 (lm _ (by decide) h))⟩
    · have G7 : listed.getD 7 false = true → listed.getD 3 false = true := GX.2.1
      simp only [List.getElem?_toArray, List.getElem?_cons_zero, List.getElem?_cons_succ, Option.some.injEq] at ho
      subst ho
      have L2 := hdp ⟨2, .data⟩ (by simp) rfl
      obtain rfl := F2 L2
      have HFB := Lib.hid FB
      refine wpOp_step rfl (fun K hK => ?_)
      go_simp
      go_at_call 6
      refine (HC2.out w HFB.out).mono ?_
      rintro e' w' ⟨q, rfl, hq, hqi, hb'⟩
      refine hK _ _ ?_
      have hbs := hb'.size
      refine ⟨_, _, _, _, _, _, x, q, gx, gy, cx, cy, rfl, ?_, ?_, ?_, ?_, ?_, ?_, ?_, ?_, ?_⟩
      · exact fun h => F0 (lm _ (by decide) h)
      · exact fun h => F2 (lm _ (by decide) h)
      · exact fun h => ⟨(F1 (lm _ (by decide) h)).1, (F1 (lm _ (by decide) h)).2.1, (F1 (lm _ (by decide) h)).2.2.keep (fun b hb => ⟨Nat.lt_of_lt_of_le hb.1 hbs, fun h4 => hb.2.1 (lm _ (by decide) h4), fun h5 => hb.2.2 (lm _ (by decide) h5)⟩) (fun p hp => hb'.cell hp.1)⟩
      · exact fun _ => ⟨rfl, hq, hqi.keep (fun b hb => ⟨hb.2, fun h4 => by have := ((F4 (lm _ (by decide) h4)).2.2.1).lt; have := hb.1; omega, fun h5 => by have := ((F5 (lm _ (by decide) h5)).2.2.1).lt; have := hb.1; omega⟩) (fun _ _ => rfl)⟩
      · exact fun h => ⟨(F4 (lm _ (by decide) h)).1, (F4 (lm _ (by decide) h)).2.1, ((F4 (lm _ (by decide) h)).2.2.1).below hb', (F4 (lm _ (by decide) h)).2.2.2.1, fun h6 => (F4 (lm _ (by decide) h)).2.2.2.2 (lm _ (by decide) h6)⟩
      · exact fun h => ⟨(F5 (lm _ (by decide) h)).1, (F5 (lm _ (by decide) h)).2.1, ((F5 (lm _ (by decide) h)).2.2.1).below hb', (F5 (lm _ (by decide) h)).2.2.2.1, fun h7 => absurd (G7 (lm _ (by decide) h7)) lno⟩
      · exact fun h4 h5 => F45 (lm _ (by decide) h4) (lm _ (by decide) h5)
      · exact bt FB hb'
      · exact ⟨fun h => la (GX.1 (lm _ (by decide) h)), fun _ => lself hnl, fun h => la (GX.2.2.1 (lm _ (by decide) h)), fun h => la (GX.2.2.2 (lm _ (by decide) h))⟩
    · have G64 : listed.getD 6 false = true → listed.getD 4 false = true := GX.2.2.1
      simp only [List.getElem?_toArray, List.getElem?_cons_zero, List.getElem?_cons_succ, Option.some.injEq] at ho
      subst ho
      refine wpOp_step rfl (fun K hK => ?_)
      go_simp
      refine hK _ _ ?_
      have hbA : Below w.heap.size w (w.alloc (.cells #[.int .i64 0, .string ⟨#[]⟩, .string ⟨#[]⟩, .slice none 0 0, .slice none 0 0] 26)) := ba (Below.refl _ _)
      have hsA : (w.alloc (.cells #[.int .i64 0, .string ⟨#[]⟩, .string ⟨#[]⟩, .slice none 0 0, .slice none 0 0] 26)).heap.size = w.heap.size + 1 := by simp
      refine ⟨_, _, _, _, _, _, x, y, w.heap.size, gy, #[.int .i64 0, .string ⟨#[]⟩, .string ⟨#[]⟩, .slice none 0 0, .slice none 0 0], cy, rfl, ?_, ?_, ?_, ?_, ?_, ?_, ?_, ?_, ?_⟩
      · exact fun h => F0 (lm _ (by decide) h)
      · exact fun h => F2 (lm _ (by decide) h)
      · exact fun h => ⟨(F1 (lm _ (by decide) h)).1, (F1 (lm _ (by decide) h)).2.1, (F1 (lm _ (by decide) h)).2.2.keep (fun b hb => ⟨by rw [hsA]; have := hb.1; omega, fun _ => by have := hb.1; omega, fun h5 => hb.2.2 (lm _ (by decide) h5)⟩) (fun p hp => hbA.cell hp.1)⟩
      · exact fun h => ⟨(F3 (lm _ (by decide) h)).1, (F3 (lm _ (by decide) h)).2.1, (F3 (lm _ (by decide) h)).2.2.keep (fun b hb => ⟨by rw [hsA]; have := hb.1; omega, fun _ => by have := hb.1; omega, fun h5 => hb.2.2 (lm _ (by decide) h5)⟩) (fun p hp => hbA.cell hp.1)⟩
      · exact fun _ => ⟨rfl, FB.size, Blk.new w _, rfl, fun h6 => absurd (G64 (lm _ (by decide) h6)) lno⟩
      · exact fun h => ⟨(F5 (lm _ (by decide) h)).1, (F5 (lm _ (by decide) h)).2.1, ((F5 (lm _ (by decide) h)).2.2.1).alloc _, (F5 (lm _ (by decide) h)).2.2.2.1, fun h7 => (F5 (lm _ (by decide) h)).2.2.2.2 (lm _ (by decide) h7)⟩
      · exact fun _ h5 => by have := ((F5 (lm _ (by decide) h5)).2.2.1).lt; omega
      · exact ba FB
      · exact ⟨fun h => la (GX.1 (lm _ (by decide) h)), fun h => la (GX.2.1 (lm _ (by decide) h)), fun _ => lself hnl, fun h => la (GX.2.2.2 (lm _ (by decide) h))⟩
    · have G75 : listed.getD 7 false = true → listed.getD 5 false = true := GX.2.2.2
      simp only [List.getElem?_toArray, List.getElem?_cons_zero, List.getElem?_cons_succ, Option.some.injEq] at ho
      subst ho
      refine wpOp_step rfl (fun K hK => ?_)
      go_simp
      refine hK _ _ ?_
      have hbA : Below w.heap.size w (w.alloc (.cells #[.int .i64 0, .string ⟨#[]⟩, .string ⟨#[]⟩, .slice none 0 0, .slice none 0 0] 26)) := ba (Below.refl _ _)
      have hsA : (w.alloc (.cells #[.int .i64 0, .string ⟨#[]⟩, .string ⟨#[]⟩, .slice none 0 0, .slice none 0 0] 26)).heap.size = w.heap.size + 1 := by simp
      refine ⟨_, _, _, _, _, _, x, y, gx, w.heap.size, cx, #[.int .i64 0, .string ⟨#[]⟩, .string ⟨#[]⟩, .slice none 0 0, .slice none 0 0], rfl, ?_, ?_, ?_, ?_, ?_, ?_, ?_, ?_, ?_⟩
      · exact fun h => F0 (lm _ (by decide) h)
      · exact fun h => F2 (lm _ (by decide) h)
      · exact fun h => ⟨(F1 (lm _ (by decide) h)).1, (F1 (lm _ (by decide) h)).2.1, (F1 (lm _ (by decide) h)).2.2.keep (fun b hb => ⟨by rw [hsA]; have := hb.1; omega, fun h4 => hb.2.1 (lm _ (by decide) h4), fun _ => by have := hb.1; omega⟩) (fun p hp => hbA.cell hp.1)⟩
      · exact fun h => ⟨(F3 (lm _ (by decide) h)).1, (F3 (lm _ (by decide) h)).2.1, (F3 (lm _ (by decide) h)).2.2.keep (fun b hb => ⟨by rw [hsA]; have := hb.1; omega, fun h4 => hb.2.1 (lm _ (by decide) h4), fun _ => by have := hb.1; omega⟩) (fun p hp => hbA.cell hp.1)⟩
      · exact fun h => ⟨(F4 (lm _ (by decide) h)).1, (F4 (lm _ (by decide) h)).2.1, ((F4 (lm _ (by decide) h)).2.2.1).alloc _, (F4 (lm _ (by decide) h)).2.2.2.1, fun h6 => (F4 (lm _ (by decide) h)).2.2.2.2 (lm _ (by decide) h6)⟩
      · exact fun _ => ⟨rfl, FB.size, Blk.new w _, rfl, fun h7 => absurd (G75 (lm _ (by decide) h7)) lno⟩
      · exact fun h4 _ => by have := ((F4 (lm _ (by decide) h4)).2.2.1).lt; omega
      · exact ba FB
      · exact ⟨fun h => la (GX.1 (lm _ (by decide) h)), fun h => la (GX.2.1 (lm _ (by decide) h)), fun h => la (GX.2.2.1 (lm _ (by decide) h)), fun _ => lself hnl⟩
    · simp only [List.getElem?_toArray, List.getElem?_cons_zero, List.getElem?_cons_succ, Option.some.injEq] at ho
      subst ho
      have L4 := hdp ⟨4, .data⟩ (by simp) rfl
      have L1 := hdp ⟨1, .data⟩ (by simp) rfl
      obtain ⟨rfl, hgB, hBlk, hsz, _⟩ := F4 L4
      obtain ⟨rfl, hCv, hIv⟩ := F1 L1
      obtain ⟨u0, u1, u2, u3, u4, rfl⟩ := five_of hsz
      obtain ⟨qk, qn, qv, qA, qac, qps, qK, qkc, qks⟩ := x
      have e0 : w.cell? ⟨gx, 0, none⟩ = some u0 := hBlk.cell 0
      have e1 : w.cell? ⟨gx, 1, none⟩ = some u1 := hBlk.cell 1
      have e2 : w.cell? ⟨gx, 2, none⟩ = some u2 := hBlk.cell 2
      have e3 : w.cell? ⟨gx, 3, none⟩ = some u3 := hBlk.cell 3
      have e4 : w.cell? ⟨gx, 4, none⟩ = some u4 := hBlk.cell 4
      have f0 : w.frozen? ⟨gx, 0, none⟩ = false := hBlk.frozen 0
      have f1 : w.frozen? ⟨gx, 1, none⟩ = false := hBlk.frozen 1
      have f2 : w.frozen? ⟨gx, 2, none⟩ = false := hBlk.frozen 2
      have f3 : w.frozen? ⟨gx, 3, none⟩ = false := hBlk.frozen 3
      have f4 : w.frozen? ⟨gx, 4, none⟩ = false := hBlk.frozen 4
      have HBK := Lib.hid hBlk
      clear hBlk
      refine wpOp_step rfl (fun K hK => ?_)
      simp only [Tr.v] at hK ⊢
      go_simp
      refine hK _ _ ?_
      have hs5 : (((((w.setCell ⟨gx, 0, none⟩ (.int .i64 qk)).setCell ⟨gx, 1, none⟩ (.string (ba' qn))).setCell ⟨gx, 2, none⟩ (.string (ba' qv))).setCell ⟨gx, 3, none⟩ (.slice qA qps.length qac)).setCell ⟨gx, 4, none⟩ (.slice qK qks.length qkc)).heap.size = w.heap.size := by simp
      have hc5 : ∀ p : Addr, p.block ≠ gx → (((((w.setCell ⟨gx, 0, none⟩ (.int .i64 qk)).setCell ⟨gx, 1, none⟩ (.string (ba' qn))).setCell ⟨gx, 2, none⟩ (.string (ba' qv))).setCell ⟨gx, 3, none⟩ (.slice qA qps.length qac)).setCell ⟨gx, 4, none⟩ (.slice qK qks.length qkc)).cell? p = w.cell? p := fun p hp => by
        rw [World.cell?_setCell_other _ _ _ _ (fun e => hp (by subst e; rfl)), World.cell?_setCell_other _ _ _ _ (fun e => hp (by subst e; rfl)), World.cell?_setCell_other _ _ _ _ (fun e => hp (by subst e; rfl)), World.cell?_setCell_other _ _ _ _ (fun e => hp (by subst e; rfl)), World.cell?_setCell_other _ _ _ _ (fun e => hp (by subst e; rfl))]
      have hB5 : Blk (((((w.setCell ⟨gx, 0, none⟩ (.int .i64 qk)).setCell ⟨gx, 1, none⟩ (.string (ba' qn))).setCell ⟨gx, 2, none⟩ (.string (ba' qv))).setCell ⟨gx, 3, none⟩ (.slice qA qps.length qac)).setCell ⟨gx, 4, none⟩ (.slice qK qks.length qkc)) gx #[.int .i64 qk, .string (ba' qn), .string (ba' qv), .slice qA qps.length qac, .slice qK qks.length qkc] := ((((HBK.out.set_ 0 _).set_ 1 _).set_ 2 _).set_ 3 _).set_ 4 _
      have hBW : Below W.heap.size W (((((w.setCell ⟨gx, 0, none⟩ (.int .i64 qk)).setCell ⟨gx, 1, none⟩ (.string (ba' qn))).setCell ⟨gx, 2, none⟩ (.string (ba' qv))).setCell ⟨gx, 3, none⟩ (.slice qA qps.length qac)).setCell ⟨gx, 4, none⟩ (.slice qK qks.length qkc)) := ((((FB.setCell (p := ⟨gx, 0, none⟩) hgB _).setCell (p := ⟨gx, 1, none⟩) hgB _).setCell (p := ⟨gx, 2, none⟩) hgB _).setCell (p := ⟨gx, 3, none⟩) hgB _).setCell (p := ⟨gx, 4, none⟩) hgB _
      refine ⟨_, _, _, _, _, _, .mk qk qn qv qA qac qps qK qkc qks, y, gx, gy, #[.int .i64 qk, .string (ba' qn), .string (ba' qv), .slice qA qps.length qac, .slice qK qks.length qkc], cy, rfl, ?_, ?_, ?_, ?_, ?_, ?_, ?_, ?_, ?_⟩
      · exact fun h => F0 (lm _ (by decide) h)
      · exact fun h => F2 (lm _ (by decide) h)
      · exact fun _ => ⟨rfl, hCv, hIv.keep (fun b hb => ⟨by rw [hs5]; exact hb.1, fun h4 => hb.2.1 (lm _ (by decide) h4), fun h5 => hb.2.2 (lm _ (by decide) h5)⟩) (fun p hp => hc5 p (hp.2.1 L4))⟩
      · exact fun h => ⟨(F3 (lm _ (by decide) h)).1, (F3 (lm _ (by decide) h)).2.1, (F3 (lm _ (by decide) h)).2.2.keep (fun b hb => ⟨by rw [hs5]; exact hb.1, fun h4 => hb.2.1 (lm _ (by decide) h4), fun h5 => hb.2.2 (lm _ (by decide) h5)⟩) (fun p hp => hc5 p (hp.2.1 L4))⟩
      · exact fun _ => ⟨rfl, hgB, hB5, rfl, fun _ => rfl⟩
      · intro h
        have hne : gy ≠ gx := fun e => F45 L4 (lm _ (by decide) h) e.symm
        exact ⟨(F5 (lm _ (by decide) h)).1, (F5 (lm _ (by decide) h)).2.1, (((((F5 (lm _ (by decide) h)).2.2.1.far (p := ⟨gx, 0, none⟩) hne _).far (p := ⟨gx, 1, none⟩) hne _).far (p := ⟨gx, 2, none⟩) hne _).far (p := ⟨gx, 3, none⟩) hne _).far (p := ⟨gx, 4, none⟩) hne _, (F5 (lm _ (by decide) h)).2.2.2.1, fun h7 => (F5 (lm _ (by decide) h)).2.2.2.2 (lm _ (by decide) h7)⟩
      · exact fun h4 h5 => F45 (lm _ (by decide) h4) (lm _ (by decide) h5)
      · exact hBW
      · exact ⟨fun _ => la (L1), fun h => la (GX.2.1 (lm _ (by decide) h)), fun _ => la (L4), fun h => la (GX.2.2.2 (lm _ (by decide) h))⟩
    · simp only [List.getElem?_toArray, List.getElem?_cons_zero, List.getElem?_cons_succ, Option.some.injEq] at ho
      subst ho
      have L5 := hdp ⟨5, .data⟩ (by simp) rfl
      have L3 := hdp ⟨3, .data⟩ (by simp) rfl
      obtain ⟨rfl, hgB, hBlk, hsz, _⟩ := F5 L5
      obtain ⟨rfl, hCv, hIv⟩ := F3 L3
      obtain ⟨u0, u1, u2, u3, u4, rfl⟩ := five_of hsz
      obtain ⟨qk, qn, qv, qA, qac, qps, qK, qkc, qks⟩ := y
      have e0 : w.cell? ⟨gy, 0, none⟩ = some u0 := hBlk.cell 0
      have e1 : w.cell? ⟨gy, 1, none⟩ = some u1 := hBlk.cell 1
      have e2 : w.cell? ⟨gy, 2, none⟩ = some u2 := hBlk.cell 2
      have e3 : w.cell? ⟨gy, 3, none⟩ = some u3 := hBlk.cell 3
      have e4 : w.cell? ⟨gy, 4, none⟩ = some u4 := hBlk.cell 4
      have f0 : w.frozen? ⟨gy, 0, none⟩ = false := hBlk.frozen 0
      have f1 : w.frozen? ⟨gy, 1, none⟩ = false := hBlk.frozen 1
      have f2 : w.frozen? ⟨gy, 2, none⟩ = false := hBlk.frozen 2
      have f3 : w.frozen? ⟨gy, 3, none⟩ = false := hBlk.frozen 3
      have f4 : w.frozen? ⟨gy, 4, none⟩ = false := hBlk.frozen 4
      have HBK := Lib.hid hBlk
      clear hBlk
      refine wpOp_step rfl (fun K hK => ?_)
      simp only [Tr.v] at hK ⊢
      go_simp
      refine hK _ _ ?_
      have hs5 : (((((w.setCell ⟨gy, 0, none⟩ (.int .i64 qk)).setCell ⟨gy, 1, none⟩ (.string (ba' qn))).setCell ⟨gy, 2, none⟩ (.string (ba' qv))).setCell ⟨gy, 3, none⟩ (.slice qA qps.length qac)).setCell ⟨gy, 4, none⟩ (.slice qK qks.length qkc)).heap.size = w.heap.size := by simp
      have hc5 : ∀ p : Addr, p.block ≠ gy → (((((w.setCell ⟨gy, 0, none⟩ (.int .i64 qk)).setCell ⟨gy, 1, none⟩ (.string (ba' qn))).setCell ⟨gy, 2, none⟩ (.string (ba' qv))).setCell ⟨gy, 3, none⟩ (.slice qA qps.length qac)).setCell ⟨gy, 4, none⟩ (.slice qK qks.length qkc)).cell? p = w.cell? p := fun p hp => by
        rw [World.cell?_setCell_other _ _ _ _ (fun e => hp (by subst e; rfl)), World.cell?_setCell_other _ _ _ _ (fun e => hp (by subst e; rfl)), World.cell?_setCell_other _ _ _ _ (fun e => hp (by subst e; rfl)), World.cell?_setCell_other _ _ _ _ (fun e => hp (by subst e; rfl)), World.cell?_setCell_other _ _ _ _ (fun e => hp (by subst e; rfl))]
      have hB5 : Blk (((((w.setCell ⟨gy, 0, none⟩ (.int .i64 qk)).setCell ⟨gy, 1, none⟩ (.string (ba' qn))).setCell ⟨gy, 2, none⟩ (.string (ba' qv))).setCell ⟨gy, 3, none⟩ (.slice qA qps.length qac)).setCell ⟨gy, 4, none⟩ (.slice qK qks.length qkc)) gy #[.int .i64 qk, .string (ba' qn), .string (ba' qv), .slice qA qps.length qac, .slice qK qks.length qkc] := ((((HBK.out.set_ 0 _).set_ 1 _).set_ 2 _).set_ 3 _).set_ 4 _
      have hBW : Below W.heap.size W (((((w.setCell ⟨gy, 0, none⟩ (.int .i64 qk)).setCell ⟨gy, 1, none⟩ (.string (ba' qn))).setCell ⟨gy, 2, none⟩ (.string (ba' qv))).setCell ⟨gy, 3, none⟩ (.slice qA qps.length qac)).setCell ⟨gy, 4, none⟩ (.slice qK qks.length qkc)) := ((((FB.setCell (p := ⟨gy, 0, none⟩) hgB _).setCell (p := ⟨gy, 1, none⟩) hgB _).setCell (p := ⟨gy, 2, none⟩) hgB _).setCell (p := ⟨gy, 3, none⟩) hgB _).setCell (p := ⟨gy, 4, none⟩) hgB _
      refine ⟨_, _, _, _, _, _, x, .mk qk qn qv qA qac qps qK qkc qks, gx, gy, cx, #[.int .i64 qk, .string (ba' qn), .string (ba' qv), .slice qA qps.length qac, .slice qK qks.length qkc], rfl, ?_, ?_, ?_, ?_, ?_, ?_, ?_, ?_, ?_⟩
      · exact fun h => F0 (lm _ (by decide) h)
      · exact fun h => F2 (lm _ (by decide) h)
      · exact fun h => ⟨(F1 (lm _ (by decide) h)).1, (F1 (lm _ (by decide) h)).2.1, (F1 (lm _ (by decide) h)).2.2.keep (fun b hb => ⟨by rw [hs5]; exact hb.1, fun h4 => hb.2.1 (lm _ (by decide) h4), fun h5 => hb.2.2 (lm _ (by decide) h5)⟩) (fun p hp => hc5 p (hp.2.2 L5))⟩
      · exact fun _ => ⟨rfl, hCv, hIv.keep (fun b hb => ⟨by rw [hs5]; exact hb.1, fun h4 => hb.2.1 (lm _ (by decide) h4), fun h5 => hb.2.2 (lm _ (by decide) h5)⟩) (fun p hp => hc5 p (hp.2.2 L5))⟩
      · intro h
        have hne : gx ≠ gy := fun e => F45 (lm _ (by decide) h) L5 e
        exact ⟨(F4 (lm _ (by decide) h)).1, (F4 (lm _ (by decide) h)).2.1, (((((F4 (lm _ (by decide) h)).2.2.1.far (p := ⟨gy, 0, none⟩) hne _).far (p := ⟨gy, 1, none⟩) hne _).far (p := ⟨gy, 2, none⟩) hne _).far (p := ⟨gy, 3, none⟩) hne _).far (p := ⟨gy, 4, none⟩) hne _, (F4 (lm _ (by decide) h)).2.2.2.1, fun h6 => (F4 (lm _ (by decide) h)).2.2.2.2 (lm _ (by decide) h6)⟩
      · exact fun _ => ⟨rfl, hgB, hB5, rfl, fun _ => rfl⟩
      · exact fun h4 h5 => F45 (lm _ (by decide) h4) (lm _ (by decide) h5)
      · exact hBW
      · exact ⟨fun h => la (GX.1 (lm _ (by decide) h)), fun _ => la (L3), fun h => la (GX.2.2.1 (lm _ (by decide) h)), fun _ => la (L5)⟩
  · intro listed A w hall hI
    obtain ⟨s5, s6, s17, s18, s19, s20, x, y, gx, gy, cx, cy, rfl, F0, F2, F1, F3, F4, F5, F45, FB, _⟩ := hI
    obtain rfl := F0 (hall 0 (by decide))
    obtain rfl := F2 (hall 2 (by decide))
    obtain ⟨rfl, hx, ix⟩ := F1 (hall 1 (by decide))
    obtain ⟨rfl, hy, iy⟩ := F3 (hall 3 (by decide))
    obtain ⟨rfl, hgx, bx, _, ex⟩ := F4 (hall 4 (by decide))
    obtain ⟨rfl, hgy, by', _, ey⟩ := F5 (hall 5 (by decide))
    obtain rfl := ex (hall 6 (by decide))
    obtain rfl := ey (hall 7 (by decide))
    exact hQ x y gx gy w hx hy (ix.keep (fun b hb => hb.1) (fun _ _ => rfl)) (iy.keep (fun b hb => hb.1) (fun _ _ => rfl)) bx by' hgx hgy FB
end Go.Proofs.YtnkodafhjcjpjaaDoor
