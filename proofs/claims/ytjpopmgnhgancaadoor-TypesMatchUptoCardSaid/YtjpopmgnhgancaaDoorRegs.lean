/- Regions that draw their order: a round of Either and of Join, a type made, Times, Sub. No condition beyond what the theorems state. -/
import Derived.Test.YtjpopmgnhgancaaDoorKinds
import Derived.Test.YtjpopmgnhgancaaDoorWords
namespace Go.Proofs.YtjpopmgnhgancaaDoor
open Go.RowKit Go.Lib
set_option maxRecDepth 100000
theorem lk {listed : Array Bool} {i j : Nat} {p : Prop} (F : listed.getD j false = true → p) (h : i ≠ j := by decide) : (listed.setIfInBounds i true).getD j false = true → p := fun q => F (ls h q)
theorem cell_call {w w' : World} {B o : Nat} {v : Value} (h : w.cell? ⟨B, o, none⟩ = some v) (hb : Below w.heap.size w w') : w'.cell? ⟨B, o, none⟩ = some v := ((bcell hb).1 B o (World.block_lt_of_cell? w _ h)).trans h
theorem froz_call {w w' : World} {B o : Nat} (h : w.frozen? ⟨B, o, none⟩ = false) (hz : B < w.heap.size) (hb : Below w.heap.size w w') : w'.frozen? ⟨B, o, none⟩ = false := ((bcell hb).2 B o hz).trans h
theorem cell_far {w : World} {B B' o o' : Nat} {v u : Value} (h : w.cell? ⟨B, o, none⟩ = some v) (hne : B ≠ B') : (w.setCell ⟨B', o', none⟩ u).cell? ⟨B, o, none⟩ = some v := by
  rw [World.cell?_setCell_other]
  · exact h
  · intro e; cases e; exact hne rfl
def MoI (w0 : World) (gk gc gt gr ki ti o ri u0 u1 d0 d1 m0 m1 : Nat) (kn tn rn : ByteArray) (_nn : Nat) (c0 c1 c2 c5 c7 c8 c9 c10 c11 c12 c13 c22 c23 c24 c25 : Value) (listed : Array Bool) (A : Act) (w : World) : Prop := ∃ (s14 s15 s16 s17 s18 s19 s20 s21 : Value), A = { tmps := #[c0, c1, c2, .pointer (some ⟨gk, 0, none⟩), .pointer (some ⟨gc, 0, none⟩), c5, .pointer (some ⟨gt, 0, none⟩), c7, c8, c9, c10, c11, c12, c13, s14, s15, s16, s17, s18, s19, s20, s21, c22, c23, c24, c25], defers := [] } ∧
  (listed.getD 0 false = true → s14 = .agg #[.int .i64 (ki : Nat), .string kn]) ∧
  (listed.getD 1 false = true → s15 = .agg #[.int .i64 (ti : Nat), .string tn, .int .i64 (o : Nat)]) ∧
  (listed.getD 2 false = true → s16 = .agg #[.int .i64 (ti : Nat), .string tn]) ∧
  (listed.getD 3 false = true → s17 = .agg #[.int .i64 (ri : Nat), .string rn]) ∧
  (listed.getD 4 false = true → s18 = .agg #[.int .i64 (u0 : Nat), .int .i64 (u1 : Nat)]) ∧
  (listed.getD 5 false = true → s19 = .agg #[.int .i64 (ti : Nat), .string tn, .int .i64 (o : Nat)]) ∧
  (listed.getD 6 false = true → s20 = .agg #[.int .i64 (d0 : Nat), .int .i64 (d1 : Nat)]) ∧
  (listed.getD 7 false = true → s21 = .agg #[.int .i64 (m0 : Nat), .int .i64 (m1 : Nat)]) ∧
  (listed.getD 8 false = true → (listed.getD 0 false = true ∧ w.cell? ⟨gk, 0, none⟩ = some (.int .i64 (ri : Nat)) ∧ w.cell? ⟨gk, 1, none⟩ = some (.string rn))) ∧
  (listed.getD 9 false = true → (listed.getD 4 false = true ∧ w.cell? ⟨gc, 0, none⟩ = some (.int .i64 (m0 : Nat)) ∧ w.cell? ⟨gc, 1, none⟩ = some (.int .i64 (m1 : Nat)))) ∧
  Below w0.heap.size w0 w ∧
  w.cell? ⟨gt, 0, none⟩ = some (.int .i64 (ti : Nat)) ∧
  w.cell? ⟨gt, 1, none⟩ = some (.string tn) ∧
  w.cell? ⟨gt, 2, none⟩ = some (.int .i64 (o : Nat)) ∧
  (listed.getD 8 false = false → w.cell? ⟨gk, 0, none⟩ = some (.int .i64 (ki : Nat))) ∧
  (listed.getD 8 false = false → w.cell? ⟨gk, 1, none⟩ = some (.string kn)) ∧
  (listed.getD 9 false = false → w.cell? ⟨gc, 0, none⟩ = some (.int .i64 (u0 : Nat))) ∧
  (listed.getD 9 false = false → w.cell? ⟨gc, 1, none⟩ = some (.int .i64 (u1 : Nat))) ∧
  w.frozen? ⟨gk, 0, none⟩ = false ∧
  w.frozen? ⟨gk, 1, none⟩ = false ∧
  w.frozen? ⟨gc, 0, none⟩ = false ∧
  w.frozen? ⟨gc, 1, none⟩ = false ∧
  gk < w.heap.size ∧
  gc < w.heap.size ∧
  gt < w.heap.size ∧
  gr < w.heap.size ∧
  w.cell? ⟨gr, 0, none⟩ = some (.int .i64 0) ∧
  w.cell? ⟨gr, 1, none⟩ = some (.string ⟨#[]⟩) ∧
  w.cell? ⟨gr, 2, none⟩ = some (.int .i64 0) ∧
  w.frozen? ⟨gr, 0, none⟩ = false ∧
  w.frozen? ⟨gr, 1, none⟩ = false ∧
  w.frozen? ⟨gr, 2, none⟩ = false
set_option maxRecDepth 100000 in
set_option maxHeartbeats 16000000 in
theorem Mo_region (gk gc gt gr ki ti o ri u0 u1 d0 d1 m0 m1 : Nat) (kn tn rn : ByteArray) (nn : Nat) {x14 x15 x16 x17 x18 x19 x20 x21 : Value} {c0 c1 c2 c5 c7 c8 c9 c10 c11 c12 c13 c22 c23 c24 c25 : Value} (w0 : World) {W : World} {Q : Exit → Act → World → Prop} (hb0 : Below w0.heap.size w0 W) (C0 : W.cell? ⟨gt, 0, none⟩ = some (.int .i64 (ti : Nat))) (C1 : W.cell? ⟨gt, 1, none⟩ = some (.string tn)) (C2 : W.cell? ⟨gt, 2, none⟩ = some (.int .i64 (o : Nat))) (C3 : W.cell? ⟨gk, 0, none⟩ = some (.int .i64 (ki : Nat))) (C4 : W.cell? ⟨gk, 1, none⟩ = some (.string kn)) (C5 : W.cell? ⟨gc, 0, none⟩ = some (.int .i64 (u0 : Nat))) (C6 : W.cell? ⟨gc, 1, none⟩ = some (.int .i64 (u1 : Nat))) (C7 : W.frozen? ⟨gk, 0, none⟩ = false) (C8 : W.frozen? ⟨gk, 1, none⟩ = false) (C9 : W.frozen? ⟨gc, 0, none⟩ = false) (C10 : W.frozen? ⟨gc, 1, none⟩ = false) (C11 : gk < W.heap.size) (C12 : gc < W.heap.size) (C13 : gt < W.heap.size) (C14 : gr < W.heap.size) (C15 : W.cell? ⟨gr, 0, none⟩ = some (.int .i64 0)) (C16 : W.cell? ⟨gr, 1, none⟩ = some (.string ⟨#[]⟩)) (C17 : W.cell? ⟨gr, 2, none⟩ = some (.int .i64 0)) (C18 : W.frozen? ⟨gr, 0, none⟩ = false) (C19 : W.frozen? ⟨gr, 1, none⟩ = false) (C20 : W.frozen? ⟨gr, 2, none⟩ = false) (H1 : Hid (∀ w1, Below w0.heap.size w0 w1 → Calls Tryd.prog 41 #[.agg #[.int .i64 (ti : Nat), .string tn, .int .i64 (o : Nat)]] w1 fun e w' => e = .returned (.agg #[.int .i64 (ti : Nat), .string tn]) ∧ Below w1.heap.size w1 w')) (H2 : Hid (∀ w1, Below w0.heap.size w0 w1 → Calls Tryd.prog 44 #[.agg #[.int .i64 (ki : Nat), .string kn], .agg #[.int .i64 (ti : Nat), .string tn]] w1 fun e w' => e = .returned (.agg #[.int .i64 (ri : Nat), .string rn]) ∧ Below w1.heap.size w1 w')) (H3 : Hid (∀ w1, Below w0.heap.size w0 w1 → Calls Tryd.prog 36 #[.agg #[.int .i64 (ti : Nat), .string tn, .int .i64 (o : Nat)]] w1 fun e w' => e = .returned (.agg #[.int .i64 (d0 : Nat), .int .i64 (d1 : Nat)]) ∧ Below w1.heap.size w1 w')) (H4 : Hid (∀ w1, Below w0.heap.size w0 w1 → Calls Tryd.prog 45 #[.agg #[.int .i64 (u0 : Nat), .int .i64 (u1 : Nat)], .agg #[.int .i64 (d0 : Nat), .int .i64 (d1 : Nat)]] w1 fun e w' => e = .returned (.agg #[.int .i64 (m0 : Nat), .int .i64 (m1 : Nat)]) ∧ Below w1.heap.size w1 w')) (hkc : gk ≠ gc) (hkt : gk ≠ gt) (hct : gc ≠ gt) (hpk : w0.heap.size ≤ gk) (hpc : w0.heap.size ≤ gc) (hrk : gr ≠ gk) (hrc : gr ≠ gc)
    (hQ : ∀ (w : World) , (w.cell? ⟨gk, 0, none⟩ = some (.int .i64 (ri : Nat)) ∧ w.cell? ⟨gk, 1, none⟩ = some (.string rn) ∧ w.cell? ⟨gc, 0, none⟩ = some (.int .i64 (m0 : Nat)) ∧ w.cell? ⟨gc, 1, none⟩ = some (.int .i64 (m1 : Nat)) ∧ w.frozen? ⟨gk, 0, none⟩ = false ∧ w.frozen? ⟨gk, 1, none⟩ = false ∧ w.frozen? ⟨gc, 0, none⟩ = false ∧ w.frozen? ⟨gc, 1, none⟩ = false ∧ gk < w.heap.size ∧ gc < w.heap.size ∧ w.cell? ⟨gr, 0, none⟩ = some (.int .i64 0) ∧ w.cell? ⟨gr, 1, none⟩ = some (.string ⟨#[]⟩) ∧ w.cell? ⟨gr, 2, none⟩ = some (.int .i64 0) ∧ w.frozen? ⟨gr, 0, none⟩ = false ∧ w.frozen? ⟨gr, 1, none⟩ = false ∧ w.frozen? ⟨gr, 2, none⟩ = false) → Below w0.heap.size w0 w → Q .normal { tmps := #[c0, c1, c2, .pointer (some ⟨gk, 0, none⟩), .pointer (some ⟨gc, 0, none⟩), c5, .pointer (some ⟨gt, 0, none⟩), c7, c8, c9, c10, c11, c12, c13, .agg #[.int .i64 (ki : Nat), .string kn], .agg #[.int .i64 (ti : Nat), .string tn, .int .i64 (o : Nat)], .agg #[.int .i64 (ti : Nat), .string tn], .agg #[.int .i64 (ri : Nat), .string rn], .agg #[.int .i64 (u0 : Nat), .int .i64 (u1 : Nat)], .agg #[.int .i64 (ti : Nat), .string tn, .int .i64 (o : Nat)], .agg #[.int .i64 (d0 : Nat), .int .i64 (d1 : Nat)], .agg #[.int .i64 (m0 : Nat), .int .i64 (m1 : Nat)], c22, c23, c24, c25], defers := [] } w) :
    Code.wp Tryd.prog ((Tryd.f19.body.bind (regionOf 6)).getD .skip) Q { tmps := #[c0, c1, c2, .pointer (some ⟨gk, 0, none⟩), .pointer (some ⟨gc, 0, none⟩), c5, .pointer (some ⟨gt, 0, none⟩), c7, c8, c9, c10, c11, c12, c13, x14, x15, x16, x17, x18, x19, x20, x21, c22, c23, c24, c25], defers := [] } W := by
  conv => arg 2; whnf
  refine wp_region_inv (by kernel_rfl) (by kernel_rfl) (MoI w0 gk gc gt gr ki ti o ri u0 u1 d0 d1 m0 m1 kn tn rn nn c0 c1 c2 c5 c7 c8 c9 c10 c11 c12 c13 c22 c23 c24 c25) ?_ ?_ ?_
  · exact ⟨_, _, _, _, _, _, _, _, rfl, fun h => absurd h l0, fun h => absurd h l0, fun h => absurd h l0, fun h => absurd h l0, fun h => absurd h l0, fun h => absurd h l0, fun h => absurd h l0, fun h => absurd h l0, fun h => absurd h l0, fun h => absurd h l0, bdr hb0, C0, C1, C2, fun _ => C3, fun _ => C4, fun _ => C5, fun _ => C6, C7, C8, C9, C10, C11, C12, C13, C14, C15, C16, C17, C18, C19, C20⟩
  · intro i o listed A w hi ho hd hn hI
    unfold MoI at hI
    obtain ⟨s14, hI⟩ := hI
    obtain ⟨s15, hI⟩ := hI
    obtain ⟨s16, hI⟩ := hI
    obtain ⟨s17, hI⟩ := hI
    obtain ⟨s18, hI⟩ := hI
    obtain ⟨s19, hI⟩ := hI
    obtain ⟨s20, hI⟩ := hI
    obtain ⟨s21, hI⟩ := hI
    obtain ⟨rfl, hI⟩ := hI
    obtain ⟨F0, hI⟩ := hI
    obtain ⟨F1, hI⟩ := hI
    obtain ⟨F2, hI⟩ := hI
    obtain ⟨F3, hI⟩ := hI
    obtain ⟨F4, hI⟩ := hI
    obtain ⟨F5, hI⟩ := hI
    obtain ⟨F6, hI⟩ := hI
    obtain ⟨F7, hI⟩ := hI
    obtain ⟨F8, hI⟩ := hI
    obtain ⟨F9, hI⟩ := hI
    obtain ⟨F10, hI⟩ := hI
    obtain ⟨F11, hI⟩ := hI
    obtain ⟨F12, hI⟩ := hI
    obtain ⟨F13, hI⟩ := hI
    obtain ⟨F14, hI⟩ := hI
    obtain ⟨F15, hI⟩ := hI
    obtain ⟨F16, hI⟩ := hI
    obtain ⟨F17, hI⟩ := hI
    obtain ⟨F18, hI⟩ := hI
    obtain ⟨F19, hI⟩ := hI
    obtain ⟨F20, hI⟩ := hI
    obtain ⟨F21, hI⟩ := hI
    obtain ⟨F22, hI⟩ := hI
    obtain ⟨F23, hI⟩ := hI
    obtain ⟨F24, hI⟩ := hI
    obtain ⟨F25, hI⟩ := hI
    obtain ⟨F26, hI⟩ := hI
    obtain ⟨F27, hI⟩ := hI
    obtain ⟨F28, hI⟩ := hI
    obtain ⟨F29, hI⟩ := hI
    obtain ⟨F30, hI⟩ := hI
    have F31 := hI; clear hI
    have hi' : i < 10 := hi
    clear hi
    rcases (by omega : i = 0 ∨ i = 1 ∨ i = 2 ∨ i = 3 ∨ i = 4 ∨ i = 5 ∨ i = 6 ∨ i = 7 ∨ i = 8 ∨ i = 9) with rfl | rfl | rfl | rfl | rfl | rfl | rfl | rfl | rfl | rfl
    · simp only [List.getElem?_toArray, List.getElem?_cons_zero, Option.some.injEq] at ho
      subst ho
      have h3 := F14 (ln hn (fun hG => (F8 hG).1)); have h4 := F15 (ln hn (fun hG => (F8 hG).1))
      refine wpOp_step rfl (fun K hK => ?_)
      go_simp
      refine hK _ _ ?_
      exact ⟨_, _, _, _, _, _, _, _, rfl, fun _ => rfl, lk F1, lk F2, lk F3, lk F4, lk F5, lk F6, lk F7, fun h => ⟨la (F8 (ls (by decide) h)).1, (F8 (ls (by decide) h)).2.1, (F8 (ls (by decide) h)).2.2⟩, fun h => ⟨la (F9 (ls (by decide) h)).1, (F9 (ls (by decide) h)).2.1, (F9 (ls (by decide) h)).2.2⟩, F10, F11, F12, F13, fun h => F14 (lsf (by decide) h), fun h => F15 (lsf (by decide) h), fun h => F16 (lsf (by decide) h), fun h => F17 (lsf (by decide) h), F18, F19, F20, F21, F22, F23, F24, F25, F26, F27, F28, F29, F30, F31⟩
    · simp only [List.getElem?_toArray, List.getElem?_cons_zero, List.getElem?_cons_succ, Option.some.injEq] at ho
      subst ho
      have h0 := F11; have h1 := F12; have h2 := F13
      refine wpOp_step rfl (fun K hK => ?_)
      go_simp
      refine hK _ _ ?_
      exact ⟨_, _, _, _, _, _, _, _, rfl, lk F0, fun _ => rfl, lk F2, lk F3, lk F4, lk F5, lk F6, lk F7, fun h => ⟨la (F8 (ls (by decide) h)).1, (F8 (ls (by decide) h)).2.1, (F8 (ls (by decide) h)).2.2⟩, fun h => ⟨la (F9 (ls (by decide) h)).1, (F9 (ls (by decide) h)).2.1, (F9 (ls (by decide) h)).2.2⟩, F10, F11, F12, F13, fun h => F14 (lsf (by decide) h), fun h => F15 (lsf (by decide) h), fun h => F16 (lsf (by decide) h), fun h => F17 (lsf (by decide) h), F18, F19, F20, F21, F22, F23, F24, F25, F26, F27, F28, F29, F30, F31⟩
    · simp only [List.getElem?_toArray, List.getElem?_cons_zero, List.getElem?_cons_succ, Option.some.injEq] at ho
      subst ho
      obtain rfl := F1 (hd ⟨1, .data⟩ (by simp) rfl)
      have zk := F22; have zc := F23; have zt := F24; have zr := F25
      refine wpOp_step rfl (fun K hK => ?_)
      go_simp
      go_at_call 41
      refine (H1.out _ F10).mono ?_
      rintro e w' ⟨rfl, hb⟩
      refine hK _ _ ?_
      exact ⟨_, _, _, _, _, _, _, _, rfl, lk F0, lk F1, fun _ => rfl, lk F3, lk F4, lk F5, lk F6, lk F7, fun h => ⟨la (F8 (ls (by decide) h)).1, cell_call (F8 (ls (by decide) h)).2.1 hb, cell_call (F8 (ls (by decide) h)).2.2 hb⟩, fun h => ⟨la (F9 (ls (by decide) h)).1, cell_call (F9 (ls (by decide) h)).2.1 hb, cell_call (F9 (ls (by decide) h)).2.2 hb⟩, bt F10 hb, cell_call F11 hb, cell_call F12 hb, cell_call F13 hb, fun h => cell_call (F14 (lsf (by decide) h)) hb, fun h => cell_call (F15 (lsf (by decide) h)) hb, fun h => cell_call (F16 (lsf (by decide) h)) hb, fun h => cell_call (F17 (lsf (by decide) h)) hb, froz_call F18 zk hb, froz_call F19 zk hb, froz_call F20 zc hb, froz_call F21 zc hb, zz hb F22, zz hb F23, zz hb F24, zz hb F25, cell_call F26 hb, cell_call F27 hb, cell_call F28 hb, froz_call F29 zr hb, froz_call F30 zr hb, froz_call F31 zr hb⟩
    · simp only [List.getElem?_toArray, List.getElem?_cons_zero, List.getElem?_cons_succ, Option.some.injEq] at ho
      subst ho
      obtain rfl := F0 (hd ⟨0, .data⟩ (by simp) rfl)
      obtain rfl := F2 (hd ⟨2, .data⟩ (by simp) rfl)
      have zk := F22; have zc := F23; have zt := F24; have zr := F25
      refine wpOp_step rfl (fun K hK => ?_)
      go_simp
      go_at_call 44
      refine (H2.out _ F10).mono ?_
      rintro e w' ⟨rfl, hb⟩
      refine hK _ _ ?_
      exact ⟨_, _, _, _, _, _, _, _, rfl, lk F0, lk F1, lk F2, fun _ => rfl, lk F4, lk F5, lk F6, lk F7, fun h => ⟨la (F8 (ls (by decide) h)).1, cell_call (F8 (ls (by decide) h)).2.1 hb, cell_call (F8 (ls (by decide) h)).2.2 hb⟩, fun h => ⟨la (F9 (ls (by decide) h)).1, cell_call (F9 (ls (by decide) h)).2.1 hb, cell_call (F9 (ls (by decide) h)).2.2 hb⟩, bt F10 hb, cell_call F11 hb, cell_call F12 hb, cell_call F13 hb, fun h => cell_call (F14 (lsf (by decide) h)) hb, fun h => cell_call (F15 (lsf (by decide) h)) hb, fun h => cell_call (F16 (lsf (by decide) h)) hb, fun h => cell_call (F17 (lsf (by decide) h)) hb, froz_call F18 zk hb, froz_call F19 zk hb, froz_call F20 zc hb, froz_call F21 zc hb, zz hb F22, zz hb F23, zz hb F24, zz hb F25, cell_call F26 hb, cell_call F27 hb, cell_call F28 hb, froz_call F29 zr hb, froz_call F30 zr hb, froz_call F31 zr hb⟩
    · simp only [List.getElem?_toArray, List.getElem?_cons_zero, List.getElem?_cons_succ, Option.some.injEq] at ho
      subst ho
      have h5 := F16 (ln hn (fun hG => (F9 hG).1)); have h6 := F17 (ln hn (fun hG => (F9 hG).1))
      refine wpOp_step rfl (fun K hK => ?_)
      go_simp
      refine hK _ _ ?_
      exact ⟨_, _, _, _, _, _, _, _, rfl, lk F0, lk F1, lk F2, lk F3, fun _ => rfl, lk F5, lk F6, lk F7, fun h => ⟨la (F8 (ls (by decide) h)).1, (F8 (ls (by decide) h)).2.1, (F8 (ls (by decide) h)).2.2⟩, fun h => ⟨la (F9 (ls (by decide) h)).1, (F9 (ls (by decide) h)).2.1, (F9 (ls (by decide) h)).2.2⟩, F10, F11, F12, F13, fun h => F14 (lsf (by decide) h), fun h => F15 (lsf (by decide) h), fun h => F16 (lsf (by decide) h), fun h => F17 (lsf (by decide) h), F18, F19, F20, F21, F22, F23, F24, F25, F26, F27, F28, F29, F30, F31⟩
    · simp only [List.getElem?_toArray, List.getElem?_cons_zero, List.getElem?_cons_succ, Option.some.injEq] at ho
      subst ho
      have h0 := F11; have h1 := F12; have h2 := F13
      refine wpOp_step rfl (fun K hK => ?_)
      go_simp
      refine hK _ _ ?_
      exact ⟨_, _, _, _, _, _, _, _, rfl, lk F0, lk F1, lk F2, lk F3, lk F4, fun _ => rfl, lk F6, lk F7, fun h => ⟨la (F8 (ls (by decide) h)).1, (F8 (ls (by decide) h)).2.1, (F8 (ls (by decide) h)).2.2⟩, fun h => ⟨la (F9 (ls (by decide) h)).1, (F9 (ls (by decide) h)).2.1, (F9 (ls (by decide) h)).2.2⟩, F10, F11, F12, F13, fun h => F14 (lsf (by decide) h), fun h => F15 (lsf (by decide) h), fun h => F16 (lsf (by decide) h), fun h => F17 (lsf (by decide) h), F18, F19, F20, F21, F22, F23, F24, F25, F26, F27, F28, F29, F30, F31⟩
    · simp only [List.getElem?_toArray, List.getElem?_cons_zero, List.getElem?_cons_succ, Option.some.injEq] at ho
      subst ho
      obtain rfl := F5 (hd ⟨5, .data⟩ (by simp) rfl)
      have zk := F22; have zc := F23; have zt := F24; have zr := F25
      refine wpOp_step rfl (fun K hK => ?_)
      go_simp
      go_at_call 36
      refine (H3.out _ F10).mono ?_
      rintro e w' ⟨rfl, hb⟩
      refine hK _ _ ?_
      exact ⟨_, _, _, _, _, _, _, _, rfl, lk F0, lk F1, lk F2, lk F3, lk F4, lk F5, fun _ => rfl, lk F7, fun h => ⟨la (F8 (ls (by decide) h)).1, cell_call (F8 (ls (by decide) h)).2.1 hb, cell_call (F8 (ls (by decide) h)).2.2 hb⟩, fun h => ⟨la (F9 (ls (by decide) h)).1, cell_call (F9 (ls (by decide) h)).2.1 hb, cell_call (F9 (ls (by decide) h)).2.2 hb⟩, bt F10 hb, cell_call F11 hb, cell_call F12 hb, cell_call F13 hb, fun h => cell_call (F14 (lsf (by decide) h)) hb, fun h => cell_call (F15 (lsf (by decide) h)) hb, fun h => cell_call (F16 (lsf (by decide) h)) hb, fun h => cell_call (F17 (lsf (by decide) h)) hb, froz_call F18 zk hb, froz_call F19 zk hb, froz_call F20 zc hb, froz_call F21 zc hb, zz hb F22, zz hb F23, zz hb F24, zz hb F25, cell_call F26 hb, cell_call F27 hb, cell_call F28 hb, froz_call F29 zr hb, froz_call F30 zr hb, froz_call F31 zr hb⟩
    · simp only [List.getElem?_toArray, List.getElem?_cons_zero, List.getElem?_cons_succ, Option.some.injEq] at ho
      subst ho
      obtain rfl := F4 (hd ⟨4, .data⟩ (by simp) rfl)
      obtain rfl := F6 (hd ⟨6, .data⟩ (by simp) rfl)
      have zk := F22; have zc := F23; have zt := F24; have zr := F25
      refine wpOp_step rfl (fun K hK => ?_)
      go_simp
      go_at_call 45
      refine (H4.out _ F10).mono ?_
      rintro e w' ⟨rfl, hb⟩
      refine hK _ _ ?_
      exact ⟨_, _, _, _, _, _, _, _, rfl, lk F0, lk F1, lk F2, lk F3, lk F4, lk F5, lk F6, fun _ => rfl, fun h => ⟨la (F8 (ls (by decide) h)).1, cell_call (F8 (ls (by decide) h)).2.1 hb, cell_call (F8 (ls (by decide) h)).2.2 hb⟩, fun h => ⟨la (F9 (ls (by decide) h)).1, cell_call (F9 (ls (by decide) h)).2.1 hb, cell_call (F9 (ls (by decide) h)).2.2 hb⟩, bt F10 hb, cell_call F11 hb, cell_call F12 hb, cell_call F13 hb, fun h => cell_call (F14 (lsf (by decide) h)) hb, fun h => cell_call (F15 (lsf (by decide) h)) hb, fun h => cell_call (F16 (lsf (by decide) h)) hb, fun h => cell_call (F17 (lsf (by decide) h)) hb, froz_call F18 zk hb, froz_call F19 zk hb, froz_call F20 zc hb, froz_call F21 zc hb, zz hb F22, zz hb F23, zz hb F24, zz hb F25, cell_call F26 hb, cell_call F27 hb, cell_call F28 hb, froz_call F29 zr hb, froz_call F30 zr hb, froz_call F31 zr hb⟩
    · simp only [List.getElem?_toArray, List.getElem?_cons_zero, List.getElem?_cons_succ, Option.some.injEq] at ho
      subst ho
      obtain rfl := F3 (hd ⟨3, .data⟩ (by simp) rfl)
      have h0 := F14 (lf hn); have h1 := F15 (lf hn); have g0 := F18; have g1 := F19; have zk := F22; have zc := F23; have zt := F24; have zr := F25; have hP := Lib.hid (hd ⟨0, .phase⟩ (by simp) rfl)
      refine wpOp_step rfl (fun K hK => ?_)
      go_simp
      refine hK _ _ ?_
      exact ⟨_, _, _, _, _, _, _, _, rfl, lk F0, lk F1, lk F2, lk F3, lk F4, lk F5, lk F6, lk F7, fun _ => ⟨la hP.out, by go_simp, by go_simp⟩, fun h => ⟨la (F9 (ls (by decide) h)).1, cell_far (cell_far (F9 (ls (by decide) h)).2.1 hkc.symm) hkc.symm, cell_far (cell_far (F9 (ls (by decide) h)).2.2 hkc.symm) hkc.symm⟩, bs (bs F10 hpk) hpk, cell_far (cell_far F11 hkt.symm) hkt.symm, cell_far (cell_far F12 hkt.symm) hkt.symm, cell_far (cell_far F13 hkt.symm) hkt.symm, fun h => lx hn h, fun h => lx hn h, fun h => cell_far (cell_far (F16 (lsf (by decide) h)) hkc.symm) hkc.symm, fun h => cell_far (cell_far (F17 (lsf (by decide) h)) hkc.symm) hkc.symm, (by rw [World.frozen?_setCell, World.frozen?_setCell]; exact F18), (by rw [World.frozen?_setCell, World.frozen?_setCell]; exact F19), (by rw [World.frozen?_setCell, World.frozen?_setCell]; exact F20), (by rw [World.frozen?_setCell, World.frozen?_setCell]; exact F21), (by rw [World.size_setCell, World.size_setCell]; exact F22), (by rw [World.size_setCell, World.size_setCell]; exact F23), (by rw [World.size_setCell, World.size_setCell]; exact F24), (by rw [World.size_setCell, World.size_setCell]; exact F25), cell_far (cell_far F26 hrk) hrk, cell_far (cell_far F27 hrk) hrk, cell_far (cell_far F28 hrk) hrk, (by rw [World.frozen?_setCell, World.frozen?_setCell]; exact F29), (by rw [World.frozen?_setCell, World.frozen?_setCell]; exact F30), (by rw [World.frozen?_setCell, World.frozen?_setCell]; exact F31)⟩
    · simp only [List.getElem?_toArray, List.getElem?_cons_zero, List.getElem?_cons_succ, Option.some.injEq] at ho
      subst ho
      obtain rfl := F7 (hd ⟨7, .data⟩ (by simp) rfl)
      have h0 := F16 (lf hn); have h1 := F17 (lf hn); have g0 := F20; have g1 := F21; have zk := F22; have zc := F23; have zt := F24; have zr := F25; have hP := Lib.hid (hd ⟨4, .phase⟩ (by simp) rfl)
      refine wpOp_step rfl (fun K hK => ?_)
      go_simp
      refine hK _ _ ?_
      exact ⟨_, _, _, _, _, _, _, _, rfl, lk F0, lk F1, lk F2, lk F3, lk F4, lk F5, lk F6, lk F7, fun h => ⟨la (F8 (ls (by decide) h)).1, cell_far (cell_far (F8 (ls (by decide) h)).2.1 hkc) hkc, cell_far (cell_far (F8 (ls (by decide) h)).2.2 hkc) hkc⟩, fun _ => ⟨la hP.out, by go_simp, by go_simp⟩, bs (bs F10 hpc) hpc, cell_far (cell_far F11 hct.symm) hct.symm, cell_far (cell_far F12 hct.symm) hct.symm, cell_far (cell_far F13 hct.symm) hct.symm, fun h => cell_far (cell_far (F14 (lsf (by decide) h)) hkc) hkc, fun h => cell_far (cell_far (F15 (lsf (by decide) h)) hkc) hkc, fun h => lx hn h, fun h => lx hn h, (by rw [World.frozen?_setCell, World.frozen?_setCell]; exact F18), (by rw [World.frozen?_setCell, World.frozen?_setCell]; exact F19), (by rw [World.frozen?_setCell, World.frozen?_setCell]; exact F20), (by rw [World.frozen?_setCell, World.frozen?_setCell]; exact F21), (by rw [World.size_setCell, World.size_setCell]; exact F22), (by rw [World.size_setCell, World.size_setCell]; exact F23), (by rw [World.size_setCell, World.size_setCell]; exact F24), (by rw [World.size_setCell, World.size_setCell]; exact F25), cell_far (cell_far F26 hrc) hrc, cell_far (cell_far F27 hrc) hrc, cell_far (cell_far F28 hrc) hrc, (by rw [World.frozen?_setCell, World.frozen?_setCell]; exact F29), (by rw [World.frozen?_setCell, World.frozen?_setCell]; exact F30), (by rw [World.frozen?_setCell, World.frozen?_setCell]; exact F31)⟩
  · intro listed A w hall hI
    unfold MoI at hI
    obtain ⟨s14, hI⟩ := hI
    obtain ⟨s15, hI⟩ := hI
    obtain ⟨s16, hI⟩ := hI
    obtain ⟨s17, hI⟩ := hI
    obtain ⟨s18, hI⟩ := hI
    obtain ⟨s19, hI⟩ := hI
    obtain ⟨s20, hI⟩ := hI
    obtain ⟨s21, hI⟩ := hI
    obtain ⟨rfl, hI⟩ := hI
    obtain ⟨F0, hI⟩ := hI
    obtain ⟨F1, hI⟩ := hI
    obtain ⟨F2, hI⟩ := hI
    obtain ⟨F3, hI⟩ := hI
    obtain ⟨F4, hI⟩ := hI
    obtain ⟨F5, hI⟩ := hI
    obtain ⟨F6, hI⟩ := hI
    obtain ⟨F7, hI⟩ := hI
    obtain ⟨F8, hI⟩ := hI
    obtain ⟨F9, hI⟩ := hI
    obtain ⟨F10, hI⟩ := hI
    obtain ⟨F11, hI⟩ := hI
    obtain ⟨F12, hI⟩ := hI
    obtain ⟨F13, hI⟩ := hI
    obtain ⟨F14, hI⟩ := hI
    obtain ⟨F15, hI⟩ := hI
    obtain ⟨F16, hI⟩ := hI
    obtain ⟨F17, hI⟩ := hI
    obtain ⟨F18, hI⟩ := hI
    obtain ⟨F19, hI⟩ := hI
    obtain ⟨F20, hI⟩ := hI
    obtain ⟨F21, hI⟩ := hI
    obtain ⟨F22, hI⟩ := hI
    obtain ⟨F23, hI⟩ := hI
    obtain ⟨F24, hI⟩ := hI
    obtain ⟨F25, hI⟩ := hI
    obtain ⟨F26, hI⟩ := hI
    obtain ⟨F27, hI⟩ := hI
    obtain ⟨F28, hI⟩ := hI
    obtain ⟨F29, hI⟩ := hI
    obtain ⟨F30, hI⟩ := hI
    have F31 := hI; clear hI
    obtain rfl := F0 (hall 0 (by decide))
    obtain rfl := F1 (hall 1 (by decide))
    obtain rfl := F2 (hall 2 (by decide))
    obtain rfl := F3 (hall 3 (by decide))
    obtain rfl := F4 (hall 4 (by decide))
    obtain rfl := F5 (hall 5 (by decide))
    obtain rfl := F6 (hall 6 (by decide))
    obtain rfl := F7 (hall 7 (by decide))
    have P8 := F8 (hall 8 (by decide))
    have P9 := F9 (hall 9 (by decide))
    have HB := F10
    have Q0 := F11
    have Q1 := F12
    have Q2 := F13
    have Q7 := F18
    have Q8 := F19
    have Q9 := F20
    have Q10 := F21
    have Q11 := F22
    have Q12 := F23
    have Q13 := F24
    have Q14 := F25
    have Q15 := F26
    have Q16 := F27
    have Q17 := F28
    have Q18 := F29
    have Q19 := F30
    have Q20 := F31
    exact hQ _ ⟨P8.2.1, P8.2.2, P9.2.1, P9.2.2, Q7, Q8, Q9, Q10, Q11, Q12, Q15, Q16, Q17, Q18, Q19, Q20⟩ HB
def MpI (w0 : World) (gk gc gt gr ki ti o ri u0 u1 d0 d1 m0 m1 : Nat) (kn tn rn : ByteArray) (_nn : Nat) (c0 c1 c2 c5 c7 c8 c9 c10 c11 c12 c13 c22 c23 c24 c25 : Value) (listed : Array Bool) (A : Act) (w : World) : Prop := ∃ (s14 s15 s16 s17 s18 s19 s20 s21 : Value), A = { tmps := #[c0, c1, c2, .pointer (some ⟨gk, 0, none⟩), .pointer (some ⟨gc, 0, none⟩), c5, .pointer (some ⟨gt, 0, none⟩), c7, c8, c9, c10, c11, c12, c13, s14, s15, s16, s17, s18, s19, s20, s21, c22, c23, c24, c25], defers := [] } ∧
  (listed.getD 0 false = true → s14 = .agg #[.int .i64 (ki : Nat), .string kn]) ∧
  (listed.getD 1 false = true → s15 = .agg #[.int .i64 (ti : Nat), .string tn, .int .i64 (o : Nat)]) ∧
  (listed.getD 2 false = true → s16 = .agg #[.int .i64 (ti : Nat), .string tn]) ∧
  (listed.getD 3 false = true → s17 = .agg #[.int .i64 (ri : Nat), .string rn]) ∧
  (listed.getD 4 false = true → s18 = .agg #[.int .i64 (u0 : Nat), .int .i64 (u1 : Nat)]) ∧
  (listed.getD 5 false = true → s19 = .agg #[.int .i64 (ti : Nat), .string tn, .int .i64 (o : Nat)]) ∧
  (listed.getD 6 false = true → s20 = .agg #[.int .i64 (d0 : Nat), .int .i64 (d1 : Nat)]) ∧
  (listed.getD 7 false = true → s21 = .agg #[.int .i64 (m0 : Nat), .int .i64 (m1 : Nat)]) ∧
  (listed.getD 8 false = true → (listed.getD 0 false = true ∧ w.cell? ⟨gk, 0, none⟩ = some (.int .i64 (ri : Nat)) ∧ w.cell? ⟨gk, 1, none⟩ = some (.string rn))) ∧
  (listed.getD 9 false = true → (listed.getD 4 false = true ∧ w.cell? ⟨gc, 0, none⟩ = some (.int .i64 (m0 : Nat)) ∧ w.cell? ⟨gc, 1, none⟩ = some (.int .i64 (m1 : Nat)))) ∧
  Below w0.heap.size w0 w ∧
  w.cell? ⟨gt, 0, none⟩ = some (.int .i64 (ti : Nat)) ∧
  w.cell? ⟨gt, 1, none⟩ = some (.string tn) ∧
  w.cell? ⟨gt, 2, none⟩ = some (.int .i64 (o : Nat)) ∧
  (listed.getD 8 false = false → w.cell? ⟨gk, 0, none⟩ = some (.int .i64 (ki : Nat))) ∧
  (listed.getD 8 false = false → w.cell? ⟨gk, 1, none⟩ = some (.string kn)) ∧
  (listed.getD 9 false = false → w.cell? ⟨gc, 0, none⟩ = some (.int .i64 (u0 : Nat))) ∧
  (listed.getD 9 false = false → w.cell? ⟨gc, 1, none⟩ = some (.int .i64 (u1 : Nat))) ∧
  w.frozen? ⟨gk, 0, none⟩ = false ∧
  w.frozen? ⟨gk, 1, none⟩ = false ∧
  w.frozen? ⟨gc, 0, none⟩ = false ∧
  w.frozen? ⟨gc, 1, none⟩ = false ∧
  gk < w.heap.size ∧
  gc < w.heap.size ∧
  gt < w.heap.size ∧
  gr < w.heap.size ∧
  w.cell? ⟨gr, 0, none⟩ = some (.int .i64 0) ∧
  w.cell? ⟨gr, 1, none⟩ = some (.string ⟨#[]⟩) ∧
  w.cell? ⟨gr, 2, none⟩ = some (.int .i64 0) ∧
  w.frozen? ⟨gr, 0, none⟩ = false ∧
  w.frozen? ⟨gr, 1, none⟩ = false ∧
  w.frozen? ⟨gr, 2, none⟩ = false
set_option maxRecDepth 100000 in
set_option maxHeartbeats 16000000 in
theorem Mp_region (gk gc gt gr ki ti o ri u0 u1 d0 d1 m0 m1 : Nat) (kn tn rn : ByteArray) (nn : Nat) {x14 x15 x16 x17 x18 x19 x20 x21 : Value} {c0 c1 c2 c5 c7 c8 c9 c10 c11 c12 c13 c22 c23 c24 c25 : Value} (w0 : World) {W : World} {Q : Exit → Act → World → Prop} (hb0 : Below w0.heap.size w0 W) (C0 : W.cell? ⟨gt, 0, none⟩ = some (.int .i64 (ti : Nat))) (C1 : W.cell? ⟨gt, 1, none⟩ = some (.string tn)) (C2 : W.cell? ⟨gt, 2, none⟩ = some (.int .i64 (o : Nat))) (C3 : W.cell? ⟨gk, 0, none⟩ = some (.int .i64 (ki : Nat))) (C4 : W.cell? ⟨gk, 1, none⟩ = some (.string kn)) (C5 : W.cell? ⟨gc, 0, none⟩ = some (.int .i64 (u0 : Nat))) (C6 : W.cell? ⟨gc, 1, none⟩ = some (.int .i64 (u1 : Nat))) (C7 : W.frozen? ⟨gk, 0, none⟩ = false) (C8 : W.frozen? ⟨gk, 1, none⟩ = false) (C9 : W.frozen? ⟨gc, 0, none⟩ = false) (C10 : W.frozen? ⟨gc, 1, none⟩ = false) (C11 : gk < W.heap.size) (C12 : gc < W.heap.size) (C13 : gt < W.heap.size) (C14 : gr < W.heap.size) (C15 : W.cell? ⟨gr, 0, none⟩ = some (.int .i64 0)) (C16 : W.cell? ⟨gr, 1, none⟩ = some (.string ⟨#[]⟩)) (C17 : W.cell? ⟨gr, 2, none⟩ = some (.int .i64 0)) (C18 : W.frozen? ⟨gr, 0, none⟩ = false) (C19 : W.frozen? ⟨gr, 1, none⟩ = false) (C20 : W.frozen? ⟨gr, 2, none⟩ = false) (H1 : Hid (∀ w1, Below w0.heap.size w0 w1 → Calls Tryd.prog 41 #[.agg #[.int .i64 (ti : Nat), .string tn, .int .i64 (o : Nat)]] w1 fun e w' => e = .returned (.agg #[.int .i64 (ti : Nat), .string tn]) ∧ Below w1.heap.size w1 w')) (H2 : Hid (∀ w1, Below w0.heap.size w0 w1 → Calls Tryd.prog 44 #[.agg #[.int .i64 (ki : Nat), .string kn], .agg #[.int .i64 (ti : Nat), .string tn]] w1 fun e w' => e = .returned (.agg #[.int .i64 (ri : Nat), .string rn]) ∧ Below w1.heap.size w1 w')) (H3 : Hid (∀ w1, Below w0.heap.size w0 w1 → Calls Tryd.prog 36 #[.agg #[.int .i64 (ti : Nat), .string tn, .int .i64 (o : Nat)]] w1 fun e w' => e = .returned (.agg #[.int .i64 (d0 : Nat), .int .i64 (d1 : Nat)]) ∧ Below w1.heap.size w1 w')) (H4 : Hid (∀ w1, Below w0.heap.size w0 w1 → Calls Tryd.prog 47 #[.agg #[.int .i64 (u0 : Nat), .int .i64 (u1 : Nat)], .agg #[.int .i64 (d0 : Nat), .int .i64 (d1 : Nat)]] w1 fun e w' => e = .returned (.agg #[.int .i64 (m0 : Nat), .int .i64 (m1 : Nat)]) ∧ Below w1.heap.size w1 w')) (hkc : gk ≠ gc) (hkt : gk ≠ gt) (hct : gc ≠ gt) (hpk : w0.heap.size ≤ gk) (hpc : w0.heap.size ≤ gc) (hrk : gr ≠ gk) (hrc : gr ≠ gc)
    (hQ : ∀ (w : World) , (w.cell? ⟨gk, 0, none⟩ = some (.int .i64 (ri : Nat)) ∧ w.cell? ⟨gk, 1, none⟩ = some (.string rn) ∧ w.cell? ⟨gc, 0, none⟩ = some (.int .i64 (m0 : Nat)) ∧ w.cell? ⟨gc, 1, none⟩ = some (.int .i64 (m1 : Nat)) ∧ w.frozen? ⟨gk, 0, none⟩ = false ∧ w.frozen? ⟨gk, 1, none⟩ = false ∧ w.frozen? ⟨gc, 0, none⟩ = false ∧ w.frozen? ⟨gc, 1, none⟩ = false ∧ gk < w.heap.size ∧ gc < w.heap.size ∧ w.cell? ⟨gr, 0, none⟩ = some (.int .i64 0) ∧ w.cell? ⟨gr, 1, none⟩ = some (.string ⟨#[]⟩) ∧ w.cell? ⟨gr, 2, none⟩ = some (.int .i64 0) ∧ w.frozen? ⟨gr, 0, none⟩ = false ∧ w.frozen? ⟨gr, 1, none⟩ = false ∧ w.frozen? ⟨gr, 2, none⟩ = false) → Below w0.heap.size w0 w → Q .normal { tmps := #[c0, c1, c2, .pointer (some ⟨gk, 0, none⟩), .pointer (some ⟨gc, 0, none⟩), c5, .pointer (some ⟨gt, 0, none⟩), c7, c8, c9, c10, c11, c12, c13, .agg #[.int .i64 (ki : Nat), .string kn], .agg #[.int .i64 (ti : Nat), .string tn, .int .i64 (o : Nat)], .agg #[.int .i64 (ti : Nat), .string tn], .agg #[.int .i64 (ri : Nat), .string rn], .agg #[.int .i64 (u0 : Nat), .int .i64 (u1 : Nat)], .agg #[.int .i64 (ti : Nat), .string tn, .int .i64 (o : Nat)], .agg #[.int .i64 (d0 : Nat), .int .i64 (d1 : Nat)], .agg #[.int .i64 (m0 : Nat), .int .i64 (m1 : Nat)], c22, c23, c24, c25], defers := [] } w) :
    Code.wp Tryd.prog ((Tryd.f20.body.bind (regionOf 6)).getD .skip) Q { tmps := #[c0, c1, c2, .pointer (some ⟨gk, 0, none⟩), .pointer (some ⟨gc, 0, none⟩), c5, .pointer (some ⟨gt, 0, none⟩), c7, c8, c9, c10, c11, c12, c13, x14, x15, x16, x17, x18, x19, x20, x21, c22, c23, c24, c25], defers := [] } W := by
  conv => arg 2; whnf
  refine wp_region_inv (by kernel_rfl) (by kernel_rfl) (MpI w0 gk gc gt gr ki ti o ri u0 u1 d0 d1 m0 m1 kn tn rn nn c0 c1 c2 c5 c7 c8 c9 c10 c11 c12 c13 c22 c23 c24 c25) ?_ ?_ ?_
  · exact ⟨_, _, _, _, _, _, _, _, rfl, fun h => absurd h l0, fun h => absurd h l0, fun h => absurd h l0, fun h => absurd h l0, fun h => absurd h l0, fun h => absurd h l0, fun h => absurd h l0, fun h => absurd h l0, fun h => absurd h l0, fun h => absurd h l0, bdr hb0, C0, C1, C2, fun _ => C3, fun _ => C4, fun _ => C5, fun _ => C6, C7, C8, C9, C10, C11, C12, C13, C14, C15, C16, C17, C18, C19, C20⟩
  · intro i o listed A w hi ho hd hn hI
    unfold MpI at hI
    obtain ⟨s14, hI⟩ := hI
    obtain ⟨s15, hI⟩ := hI
    obtain ⟨s16, hI⟩ := hI
    obtain ⟨s17, hI⟩ := hI
    obtain ⟨s18, hI⟩ := hI
    obtain ⟨s19, hI⟩ := hI
    obtain ⟨s20, hI⟩ := hI
    obtain ⟨s21, hI⟩ := hI
    obtain ⟨rfl, hI⟩ := hI
    obtain ⟨F0, hI⟩ := hI
    obtain ⟨F1, hI⟩ := hI
    obtain ⟨F2, hI⟩ := hI
    obtain ⟨F3, hI⟩ := hI
    obtain ⟨F4, hI⟩ := hI
    obtain ⟨F5, hI⟩ := hI
    obtain ⟨F6, hI⟩ := hI
    obtain ⟨F7, hI⟩ := hI
    obtain ⟨F8, hI⟩ := hI
    obtain ⟨F9, hI⟩ := hI
    obtain ⟨F10, hI⟩ := hI
    obtain ⟨F11, hI⟩ := hI
    obtain ⟨F12, hI⟩ := hI
    obtain ⟨F13, hI⟩ := hI
    obtain ⟨F14, hI⟩ := hI
    obtain ⟨F15, hI⟩ := hI
    obtain ⟨F16, hI⟩ := hI
    obtain ⟨F17, hI⟩ := hI
    obtain ⟨F18, hI⟩ := hI
    obtain ⟨F19, hI⟩ := hI
    obtain ⟨F20, hI⟩ := hI
    obtain ⟨F21, hI⟩ := hI
    obtain ⟨F22, hI⟩ := hI
    obtain ⟨F23, hI⟩ := hI
    obtain ⟨F24, hI⟩ := hI
    obtain ⟨F25, hI⟩ := hI
    obtain ⟨F26, hI⟩ := hI
    obtain ⟨F27, hI⟩ := hI
    obtain ⟨F28, hI⟩ := hI
    obtain ⟨F29, hI⟩ := hI
    obtain ⟨F30, hI⟩ := hI
    have F31 := hI; clear hI
    have hi' : i < 10 := hi
    clear hi
    rcases (by omega : i = 0 ∨ i = 1 ∨ i = 2 ∨ i = 3 ∨ i = 4 ∨ i = 5 ∨ i = 6 ∨ i = 7 ∨ i = 8 ∨ i = 9) with rfl | rfl | rfl | rfl | rfl | rfl | rfl | rfl | rfl | rfl
    · simp only [List.getElem?_toArray, List.getElem?_cons_zero, Option.some.injEq] at ho
      subst ho
      have h3 := F14 (ln hn (fun hG => (F8 hG).1)); have h4 := F15 (ln hn (fun hG => (F8 hG).1))
      refine wpOp_step rfl (fun K hK => ?_)
      go_simp
      refine hK _ _ ?_
      exact ⟨_, _, _, _, _, _, _, _, rfl, fun _ => rfl, lk F1, lk F2, lk F3, lk F4, lk F5, lk F6, lk F7, fun h => ⟨la (F8 (ls (by decide) h)).1, (F8 (ls (by decide) h)).2.1, (F8 (ls (by decide) h)).2.2⟩, fun h => ⟨la (F9 (ls (by decide) h)).1, (F9 (ls (by decide) h)).2.1, (F9 (ls (by decide) h)).2.2⟩, F10, F11, F12, F13, fun h => F14 (lsf (by decide) h), fun h => F15 (lsf (by decide) h), fun h => F16 (lsf (by decide) h), fun h => F17 (lsf (by decide) h), F18, F19, F20, F21, F22, F23, F24, F25, F26, F27, F28, F29, F30, F31⟩
    · simp only [List.getElem?_toArray, List.getElem?_cons_zero, List.getElem?_cons_succ, Option.some.injEq] at ho
      subst ho
      have h0 := F11; have h1 := F12; have h2 := F13
      refine wpOp_step rfl (fun K hK => ?_)
      go_simp
      refine hK _ _ ?_
      exact ⟨_, _, _, _, _, _, _, _, rfl, lk F0, fun _ => rfl, lk F2, lk F3, lk F4, lk F5, lk F6, lk F7, fun h => ⟨la (F8 (ls (by decide) h)).1, (F8 (ls (by decide) h)).2.1, (F8 (ls (by decide) h)).2.2⟩, fun h => ⟨la (F9 (ls (by decide) h)).1, (F9 (ls (by decide) h)).2.1, (F9 (ls (by decide) h)).2.2⟩, F10, F11, F12, F13, fun h => F14 (lsf (by decide) h), fun h => F15 (lsf (by decide) h), fun h => F16 (lsf (by decide) h), fun h => F17 (lsf (by decide) h), F18, F19, F20, F21, F22, F23, F24, F25, F26, F27, F28, F29, F30, F31⟩
    · simp only [List.getElem?_toArray, List.getElem?_cons_zero, List.getElem?_cons_succ, Option.some.injEq] at ho
      subst ho
      obtain rfl := F1 (hd ⟨1, .data⟩ (by simp) rfl)
      have zk := F22; have zc := F23; have zt := F24; have zr := F25
      refine wpOp_step rfl (fun K hK => ?_)
      go_simp
      go_at_call 41
      refine (H1.out _ F10).mono ?_
      rintro e w' ⟨rfl, hb⟩
      refine hK _ _ ?_
      exact ⟨_, _, _, _, _, _, _, _, rfl, lk F0, lk F1, fun _ => rfl, lk F3, lk F4, lk F5, lk F6, lk F7, fun h => ⟨la (F8 (ls (by decide) h)).1, cell_call (F8 (ls (by decide) h)).2.1 hb, cell_call (F8 (ls (by decide) h)).2.2 hb⟩, fun h => ⟨la (F9 (ls (by decide) h)).1, cell_call (F9 (ls (by decide) h)).2.1 hb, cell_call (F9 (ls (by decide) h)).2.2 hb⟩, bt F10 hb, cell_call F11 hb, cell_call F12 hb, cell_call F13 hb, fun h => cell_call (F14 (lsf (by decide) h)) hb, fun h => cell_call (F15 (lsf (by decide) h)) hb, fun h => cell_call (F16 (lsf (by decide) h)) hb, fun h => cell_call (F17 (lsf (by decide) h)) hb, froz_call F18 zk hb, froz_call F19 zk hb, froz_call F20 zc hb, froz_call F21 zc hb, zz hb F22, zz hb F23, zz hb F24, zz hb F25, cell_call F26 hb, cell_call F27 hb, cell_call F28 hb, froz_call F29 zr hb, froz_call F30 zr hb, froz_call F31 zr hb⟩
    · simp only [List.getElem?_toArray, List.getElem?_cons_zero, List.getElem?_cons_succ, Option.some.injEq] at ho
      subst ho
      obtain rfl := F0 (hd ⟨0, .data⟩ (by simp) rfl)
      obtain rfl := F2 (hd ⟨2, .data⟩ (by simp) rfl)
      have zk := F22; have zc := F23; have zt := F24; have zr := F25
      refine wpOp_step rfl (fun K hK => ?_)
      go_simp
      go_at_call 44
      refine (H2.out _ F10).mono ?_
      rintro e w' ⟨rfl, hb⟩
      refine hK _ _ ?_
      exact ⟨_, _, _, _, _, _, _, _, rfl, lk F0, lk F1, lk F2, fun _ => rfl, lk F4, lk F5, lk F6, lk F7, fun h => ⟨la (F8 (ls (by decide) h)).1, cell_call (F8 (ls (by decide) h)).2.1 hb, cell_call (F8 (ls (by decide) h)).2.2 hb⟩, fun h => ⟨la (F9 (ls (by decide) h)).1, cell_call (F9 (ls (by decide) h)).2.1 hb, cell_call (F9 (ls (by decide) h)).2.2 hb⟩, bt F10 hb, cell_call F11 hb, cell_call F12 hb, cell_call F13 hb, fun h => cell_call (F14 (lsf (by decide) h)) hb, fun h => cell_call (F15 (lsf (by decide) h)) hb, fun h => cell_call (F16 (lsf (by decide) h)) hb, fun h => cell_call (F17 (lsf (by decide) h)) hb, froz_call F18 zk hb, froz_call F19 zk hb, froz_call F20 zc hb, froz_call F21 zc hb, zz hb F22, zz hb F23, zz hb F24, zz hb F25, cell_call F26 hb, cell_call F27 hb, cell_call F28 hb, froz_call F29 zr hb, froz_call F30 zr hb, froz_call F31 zr hb⟩
    · simp only [List.getElem?_toArray, List.getElem?_cons_zero, List.getElem?_cons_succ, Option.some.injEq] at ho
      subst ho
      have h5 := F16 (ln hn (fun hG => (F9 hG).1)); have h6 := F17 (ln hn (fun hG => (F9 hG).1))
      refine wpOp_step rfl (fun K hK => ?_)
      go_simp
      refine hK _ _ ?_
      exact ⟨_, _, _, _, _, _, _, _, rfl, lk F0, lk F1, lk F2, lk F3, fun _ => rfl, lk F5, lk F6, lk F7, fun h => ⟨la (F8 (ls (by decide) h)).1, (F8 (ls (by decide) h)).2.1, (F8 (ls (by decide) h)).2.2⟩, fun h => ⟨la (F9 (ls (by decide) h)).1, (F9 (ls (by decide) h)).2.1, (F9 (ls (by decide) h)).2.2⟩, F10, F11, F12, F13, fun h => F14 (lsf (by decide) h), fun h => F15 (lsf (by decide) h), fun h => F16 (lsf (by decide) h), fun h => F17 (lsf (by decide) h), F18, F19, F20, F21, F22, F23, F24, F25, F26, F27, F28, F29, F30, F31⟩
    · simp only [List.getElem?_toArray, List.getElem?_cons_zero, List.getElem?_cons_succ, Option.some.injEq] at ho
      subst ho
      have h0 := F11; have h1 := F12; have h2 := F13
      refine wpOp_step rfl (fun K hK => ?_)
      go_simp
      refine hK _ _ ?_
      exact ⟨_, _, _, _, _, _, _, _, rfl, lk F0, lk F1, lk F2, lk F3, lk F4, fun _ => rfl, lk F6, lk F7, fun h => ⟨la (F8 (ls (by decide) h)).1, (F8 (ls (by decide) h)).2.1, (F8 (ls (by decide) h)).2.2⟩, fun h => ⟨la (F9 (ls (by decide) h)).1, (F9 (ls (by decide) h)).2.1, (F9 (ls (by decide) h)).2.2⟩, F10, F11, F12, F13, fun h => F14 (lsf (by decide) h), fun h => F15 (lsf (by decide) h), fun h => F16 (lsf (by decide) h), fun h => F17 (lsf (by decide) h), F18, F19, F20, F21, F22, F23, F24, F25, F26, F27, F28, F29, F30, F31⟩
    · simp only [List.getElem?_toArray, List.getElem?_cons_zero, List.getElem?_cons_succ, Option.some.injEq] at ho
      subst ho
      obtain rfl := F5 (hd ⟨5, .data⟩ (by simp) rfl)
      have zk := F22; have zc := F23; have zt := F24; have zr := F25
      refine wpOp_step rfl (fun K hK => ?_)
      go_simp
      go_at_call 36
      refine (H3.out _ F10).mono ?_
      rintro e w' ⟨rfl, hb⟩
      refine hK _ _ ?_
      exact ⟨_, _, _, _, _, _, _, _, rfl, lk F0, lk F1, lk F2, lk F3, lk F4, lk F5, fun _ => rfl, lk F7, fun h => ⟨la (F8 (ls (by decide) h)).1, cell_call (F8 (ls (by decide) h)).2.1 hb, cell_call (F8 (ls (by decide) h)).2.2 hb⟩, fun h => ⟨la (F9 (ls (by decide) h)).1, cell_call (F9 (ls (by decide) h)).2.1 hb, cell_call (F9 (ls (by decide) h)).2.2 hb⟩, bt F10 hb, cell_call F11 hb, cell_call F12 hb, cell_call F13 hb, fun h => cell_call (F14 (lsf (by decide) h)) hb, fun h => cell_call (F15 (lsf (by decide) h)) hb, fun h => cell_call (F16 (lsf (by decide) h)) hb, fun h => cell_call (F17 (lsf (by decide) h)) hb, froz_call F18 zk hb, froz_call F19 zk hb, froz_call F20 zc hb, froz_call F21 zc hb, zz hb F22, zz hb F23, zz hb F24, zz hb F25, cell_call F26 hb, cell_call F27 hb, cell_call F28 hb, froz_call F29 zr hb, froz_call F30 zr hb, froz_call F31 zr hb⟩
    · simp only [List.getElem?_toArray, List.getElem?_cons_zero, List.getElem?_cons_succ, Option.some.injEq] at ho
      subst ho
      obtain rfl := F4 (hd ⟨4, .data⟩ (by simp) rfl)
      obtain rfl := F6 (hd ⟨6, .data⟩ (by simp) rfl)
      have zk := F22; have zc := F23; have zt := F24; have zr := F25
      refine wpOp_step rfl (fun K hK => ?_)
      go_simp
      go_at_call 47
      refine (H4.out _ F10).mono ?_
      rintro e w' ⟨rfl, hb⟩
      refine hK _ _ ?_
      exact ⟨_, _, _, _, _, _, _, _, rfl, lk F0, lk F1, lk F2, lk F3, lk F4, lk F5, lk F6, fun _ => rfl, fun h => ⟨la (F8 (ls (by decide) h)).1, cell_call (F8 (ls (by decide) h)).2.1 hb, cell_call (F8 (ls (by decide) h)).2.2 hb⟩, fun h => ⟨la (F9 (ls (by decide) h)).1, cell_call (F9 (ls (by decide) h)).2.1 hb, cell_call (F9 (ls (by decide) h)).2.2 hb⟩, bt F10 hb, cell_call F11 hb, cell_call F12 hb, cell_call F13 hb, fun h => cell_call (F14 (lsf (by decide) h)) hb, fun h => cell_call (F15 (lsf (by decide) h)) hb, fun h => cell_call (F16 (lsf (by decide) h)) hb, fun h => cell_call (F17 (lsf (by decide) h)) hb, froz_call F18 zk hb, froz_call F19 zk hb, froz_call F20 zc hb, froz_call F21 zc hb, zz hb F22, zz hb F23, zz hb F24, zz hb F25, cell_call F26 hb, cell_call F27 hb, cell_call F28 hb, froz_call F29 zr hb, froz_call F30 zr hb, froz_call F31 zr hb⟩
    · simp only [List.getElem?_toArray, List.getElem?_cons_zero, List.getElem?_cons_succ, Option.some.injEq] at ho
      subst ho
      obtain rfl := F3 (hd ⟨3, .data⟩ (by simp) rfl)
      have h0 := F14 (lf hn); have h1 := F15 (lf hn); have g0 := F18; have g1 := F19; have zk := F22; have zc := F23; have zt := F24; have zr := F25; have hP := Lib.hid (hd ⟨0, .phase⟩ (by simp) rfl)
      refine wpOp_step rfl (fun K hK => ?_)
      go_simp
      refine hK _ _ ?_
      exact ⟨_, _, _, _, _, _, _, _, rfl, lk F0, lk F1, lk F2, lk F3, lk F4, lk F5, lk F6, lk F7, fun _ => ⟨la hP.out, by go_simp, by go_simp⟩, fun h => ⟨la (F9 (ls (by decide) h)).1, cell_far (cell_far (F9 (ls (by decide) h)).2.1 hkc.symm) hkc.symm, cell_far (cell_far (F9 (ls (by decide) h)).2.2 hkc.symm) hkc.symm⟩, bs (bs F10 hpk) hpk, cell_far (cell_far F11 hkt.symm) hkt.symm, cell_far (cell_far F12 hkt.symm) hkt.symm, cell_far (cell_far F13 hkt.symm) hkt.symm, fun h => lx hn h, fun h => lx hn h, fun h => cell_far (cell_far (F16 (lsf (by decide) h)) hkc.symm) hkc.symm, fun h => cell_far (cell_far (F17 (lsf (by decide) h)) hkc.symm) hkc.symm, (by rw [World.frozen?_setCell, World.frozen?_setCell]; exact F18), (by rw [World.frozen?_setCell, World.frozen?_setCell]; exact F19), (by rw [World.frozen?_setCell, World.frozen?_setCell]; exact F20), (by rw [World.frozen?_setCell, World.frozen?_setCell]; exact F21), (by rw [World.size_setCell, World.size_setCell]; exact F22), (by rw [World.size_setCell, World.size_setCell]; exact F23), (by rw [World.size_setCell, World.size_setCell]; exact F24), (by rw [World.size_setCell, World.size_setCell]; exact F25), cell_far (cell_far F26 hrk) hrk, cell_far (cell_far F27 hrk) hrk, cell_far (cell_far F28 hrk) hrk, (by rw [World.frozen?_setCell, World.frozen?_setCell]; exact F29), (by rw [World.frozen?_setCell, World.frozen?_setCell]; exact F30), (by rw [World.frozen?_setCell, World.frozen?_setCell]; exact F31)⟩
    · simp only [List.getElem?_toArray, List.getElem?_cons_zero, List.getElem?_cons_succ, Option.some.injEq] at ho
      subst ho
      obtain rfl := F7 (hd ⟨7, .data⟩ (by simp) rfl)
      have h0 := F16 (lf hn); have h1 := F17 (lf hn); have g0 := F20; have g1 := F21; have zk := F22; have zc := F23; have zt := F24; have zr := F25; have hP := Lib.hid (hd ⟨4, .phase⟩ (by simp) rfl)
      refine wpOp_step rfl (fun K hK => ?_)
      go_simp
      refine hK _ _ ?_
      exact ⟨_, _, _, _, _, _, _, _, rfl, lk F0, lk F1, lk F2, lk F3, lk F4, lk F5, lk F6, lk F7, fun h => ⟨la (F8 (ls (by decide) h)).1, cell_far (cell_far (F8 (ls (by decide) h)).2.1 hkc) hkc, cell_far (cell_far (F8 (ls (by decide) h)).2.2 hkc) hkc⟩, fun _ => ⟨la hP.out, by go_simp, by go_simp⟩, bs (bs F10 hpc) hpc, cell_far (cell_far F11 hct.symm) hct.symm, cell_far (cell_far F12 hct.symm) hct.symm, cell_far (cell_far F13 hct.symm) hct.symm, fun h => cell_far (cell_far (F14 (lsf (by decide) h)) hkc) hkc, fun h => cell_far (cell_far (F15 (lsf (by decide) h)) hkc) hkc, fun h => lx hn h, fun h => lx hn h, (by rw [World.frozen?_setCell, World.frozen?_setCell]; exact F18), (by rw [World.frozen?_setCell, World.frozen?_setCell]; exact F19), (by rw [World.frozen?_setCell, World.frozen?_setCell]; exact F20), (by rw [World.frozen?_setCell, World.frozen?_setCell]; exact F21), (by rw [World.size_setCell, World.size_setCell]; exact F22), (by rw [World.size_setCell, World.size_setCell]; exact F23), (by rw [World.size_setCell, World.size_setCell]; exact F24), (by rw [World.size_setCell, World.size_setCell]; exact F25), cell_far (cell_far F26 hrc) hrc, cell_far (cell_far F27 hrc) hrc, cell_far (cell_far F28 hrc) hrc, (by rw [World.frozen?_setCell, World.frozen?_setCell]; exact F29), (by rw [World.frozen?_setCell, World.frozen?_setCell]; exact F30), (by rw [World.frozen?_setCell, World.frozen?_setCell]; exact F31)⟩
  · intro listed A w hall hI
    unfold MpI at hI
    obtain ⟨s14, hI⟩ := hI
    obtain ⟨s15, hI⟩ := hI
    obtain ⟨s16, hI⟩ := hI
    obtain ⟨s17, hI⟩ := hI
    obtain ⟨s18, hI⟩ := hI
    obtain ⟨s19, hI⟩ := hI
    obtain ⟨s20, hI⟩ := hI
    obtain ⟨s21, hI⟩ := hI
    obtain ⟨rfl, hI⟩ := hI
    obtain ⟨F0, hI⟩ := hI
    obtain ⟨F1, hI⟩ := hI
    obtain ⟨F2, hI⟩ := hI
    obtain ⟨F3, hI⟩ := hI
    obtain ⟨F4, hI⟩ := hI
    obtain ⟨F5, hI⟩ := hI
    obtain ⟨F6, hI⟩ := hI
    obtain ⟨F7, hI⟩ := hI
    obtain ⟨F8, hI⟩ := hI
    obtain ⟨F9, hI⟩ := hI
    obtain ⟨F10, hI⟩ := hI
    obtain ⟨F11, hI⟩ := hI
    obtain ⟨F12, hI⟩ := hI
    obtain ⟨F13, hI⟩ := hI
    obtain ⟨F14, hI⟩ := hI
    obtain ⟨F15, hI⟩ := hI
    obtain ⟨F16, hI⟩ := hI
    obtain ⟨F17, hI⟩ := hI
    obtain ⟨F18, hI⟩ := hI
    obtain ⟨F19, hI⟩ := hI
    obtain ⟨F20, hI⟩ := hI
    obtain ⟨F21, hI⟩ := hI
    obtain ⟨F22, hI⟩ := hI
    obtain ⟨F23, hI⟩ := hI
    obtain ⟨F24, hI⟩ := hI
    obtain ⟨F25, hI⟩ := hI
    obtain ⟨F26, hI⟩ := hI
    obtain ⟨F27, hI⟩ := hI
    obtain ⟨F28, hI⟩ := hI
    obtain ⟨F29, hI⟩ := hI
    obtain ⟨F30, hI⟩ := hI
    have F31 := hI; clear hI
    obtain rfl := F0 (hall 0 (by decide))
    obtain rfl := F1 (hall 1 (by decide))
    obtain rfl := F2 (hall 2 (by decide))
    obtain rfl := F3 (hall 3 (by decide))
    obtain rfl := F4 (hall 4 (by decide))
    obtain rfl := F5 (hall 5 (by decide))
    obtain rfl := F6 (hall 6 (by decide))
    obtain rfl := F7 (hall 7 (by decide))
    have P8 := F8 (hall 8 (by decide))
    have P9 := F9 (hall 9 (by decide))
    have HB := F10
    have Q0 := F11
    have Q1 := F12
    have Q2 := F13
    have Q7 := F18
    have Q8 := F19
    have Q9 := F20
    have Q10 := F21
    have Q11 := F22
    have Q12 := F23
    have Q13 := F24
    have Q14 := F25
    have Q15 := F26
    have Q16 := F27
    have Q17 := F28
    have Q18 := F29
    have Q19 := F30
    have Q20 := F31
    exact hQ _ ⟨P8.2.1, P8.2.2, P9.2.1, P9.2.2, Q7, Q8, Q9, Q10, Q11, Q12, Q15, Q16, Q17, Q18, Q19, Q20⟩ HB
end Go.Proofs.YtjpopmgnhgancaaDoor
namespace Go.Proofs.YtjpopmgnhgancaaDoor
open Go.RowKit Go.Lib
set_option maxRecDepth 100000
def MaI (w0 : World) (gk gc gr i u0 u1 oc : Nat) (n : ByteArray) (c0 c1 c5 c6 c7 c8 : Value) (listed : Array Bool) (A : Act) (w : World) : Prop := ∃ (s9 s10 s11 s12 s13 s14 s15 : Value), A = { tmps := #[c0, c1, .pointer (some ⟨gk, 0, none⟩), .pointer (some ⟨gc, 0, none⟩), .pointer (some ⟨gr, 0, none⟩), c5, c6, c7, c8, s9, s10, s11, s12, s13, s14, s15], defers := [] } ∧
  (listed.getD 0 false = true → s9 = .pointer (some ⟨gk, 0, none⟩)) ∧
  (listed.getD 1 false = true → s10 = .int .i64 (i : Nat)) ∧
  (listed.getD 2 false = true → s11 = .pointer (some ⟨gk, 1, none⟩)) ∧
  (listed.getD 3 false = true → s12 = .string n) ∧
  (listed.getD 4 false = true → s13 = .agg #[.int .i64 (u0 : Nat), .int .i64 (u1 : Nat)]) ∧
  (listed.getD 5 false = true → s14 = .int .i64 (oc : Nat)) ∧
  (listed.getD 6 false = true → s15 = .agg #[.int .i64 (i : Nat), .string n, .int .i64 (oc : Nat)]) ∧
  (listed.getD 7 false = true → (w.cell? ⟨gr, 0, none⟩ = some (.int .i64 (i : Nat)) ∧ w.cell? ⟨gr, 1, none⟩ = some (.string n) ∧ w.cell? ⟨gr, 2, none⟩ = some (.int .i64 (oc : Nat)))) ∧
  Below w0.heap.size w0 w ∧
  w.cell? ⟨gk, 0, none⟩ = some (.int .i64 (i : Nat)) ∧
  w.cell? ⟨gk, 1, none⟩ = some (.string n) ∧
  w.cell? ⟨gc, 0, none⟩ = some (.int .i64 (u0 : Nat)) ∧
  w.cell? ⟨gc, 1, none⟩ = some (.int .i64 (u1 : Nat)) ∧
  (listed.getD 7 false = false → w.cell? ⟨gr, 0, none⟩ = some (.int .i64 0)) ∧
  (listed.getD 7 false = false → w.cell? ⟨gr, 1, none⟩ = some (.string ⟨#[]⟩)) ∧
  (listed.getD 7 false = false → w.cell? ⟨gr, 2, none⟩ = some (.int .i64 0)) ∧
  w.frozen? ⟨gr, 0, none⟩ = false ∧
  w.frozen? ⟨gr, 1, none⟩ = false ∧
  w.frozen? ⟨gr, 2, none⟩ = false ∧
  gr < w.heap.size
set_option maxRecDepth 100000 in
set_option maxHeartbeats 16000000 in
theorem Ma_region (gk gc gr i u0 u1 oc : Nat) (n : ByteArray) {x9 x10 x11 x12 x13 x14 x15 : Value} {c0 c1 c5 c6 c7 c8 : Value} (w0 : World) {W : World} {Q : Exit → Act → World → Prop} (hb0 : Below w0.heap.size w0 W) (C0 : W.cell? ⟨gk, 0, none⟩ = some (.int .i64 (i : Nat))) (C1 : W.cell? ⟨gk, 1, none⟩ = some (.string n)) (C2 : W.cell? ⟨gc, 0, none⟩ = some (.int .i64 (u0 : Nat))) (C3 : W.cell? ⟨gc, 1, none⟩ = some (.int .i64 (u1 : Nat))) (C4 : W.cell? ⟨gr, 0, none⟩ = some (.int .i64 0)) (C5 : W.cell? ⟨gr, 1, none⟩ = some (.string ⟨#[]⟩)) (C6 : W.cell? ⟨gr, 2, none⟩ = some (.int .i64 0)) (C7 : W.frozen? ⟨gr, 0, none⟩ = false) (C8 : W.frozen? ⟨gr, 1, none⟩ = false) (C9 : W.frozen? ⟨gr, 2, none⟩ = false) (C10 : gr < W.heap.size) (H1 : Hid (∀ w1, Below w0.heap.size w0 w1 → Calls Tryd.prog 62 #[.agg #[.int .i64 (u0 : Nat), .int .i64 (u1 : Nat)]] w1 fun e w' => e = .returned (.int .i64 (oc : Nat)) ∧ Below w1.heap.size w1 w')) (p_gr : w0.heap.size ≤ gr) (n_gk_gr : gk ≠ gr) (n_gc_gr : gc ≠ gr)
    (hQ : ∀ (w : World) , (w.cell? ⟨gr, 0, none⟩ = some (.int .i64 (i : Nat)) ∧ w.cell? ⟨gr, 1, none⟩ = some (.string n) ∧ w.cell? ⟨gr, 2, none⟩ = some (.int .i64 (oc : Nat)) ∧ gr < w.heap.size ∧ w.frozen? ⟨gr, 0, none⟩ = false ∧ w.frozen? ⟨gr, 1, none⟩ = false ∧ w.frozen? ⟨gr, 2, none⟩ = false) → Below w0.heap.size w0 w → Q .normal { tmps := #[c0, c1, .pointer (some ⟨gk, 0, none⟩), .pointer (some ⟨gc, 0, none⟩), .pointer (some ⟨gr, 0, none⟩), c5, c6, c7, c8, .pointer (some ⟨gk, 0, none⟩), .int .i64 (i : Nat), .pointer (some ⟨gk, 1, none⟩), .string n, .agg #[.int .i64 (u0 : Nat), .int .i64 (u1 : Nat)], .int .i64 (oc : Nat), .agg #[.int .i64 (i : Nat), .string n, .int .i64 (oc : Nat)]], defers := [] } w) :
    Code.wp Tryd.prog ((Tryd.f46.body.bind (regionOf 3)).getD .skip) Q { tmps := #[c0, c1, .pointer (some ⟨gk, 0, none⟩), .pointer (some ⟨gc, 0, none⟩), .pointer (some ⟨gr, 0, none⟩), c5, c6, c7, c8, x9, x10, x11, x12, x13, x14, x15], defers := [] } W := by
  conv => arg 2; whnf
  refine wp_region_inv (by kernel_rfl) (by kernel_rfl) (MaI w0 gk gc gr i u0 u1 oc n c0 c1 c5 c6 c7 c8) ?_ ?_ ?_
  · exact ⟨_, _, _, _, _, _, _, rfl, fun h => absurd h l0, fun h => absurd h l0, fun h => absurd h l0, fun h => absurd h l0, fun h => absurd h l0, fun h => absurd h l0, fun h => absurd h l0, fun h => absurd h l0, bdr hb0, C0, C1, C2, C3, fun _ => C4, fun _ => C5, fun _ => C6, C7, C8, C9, C10⟩
  · intro i o listed A w hi ho hd hn hI
    unfold MaI at hI
    obtain ⟨s9, hI⟩ := hI
    obtain ⟨s10, hI⟩ := hI
    obtain ⟨s11, hI⟩ := hI
    obtain ⟨s12, hI⟩ := hI
    obtain ⟨s13, hI⟩ := hI
    obtain ⟨s14, hI⟩ := hI
    obtain ⟨s15, hI⟩ := hI
    obtain ⟨rfl, hI⟩ := hI
    obtain ⟨F0, hI⟩ := hI
    obtain ⟨F1, hI⟩ := hI
    obtain ⟨F2, hI⟩ := hI
    obtain ⟨F3, hI⟩ := hI
    obtain ⟨F4, hI⟩ := hI
    obtain ⟨F5, hI⟩ := hI
    obtain ⟨F6, hI⟩ := hI
    obtain ⟨F7, hI⟩ := hI
    obtain ⟨F8, hI⟩ := hI
    obtain ⟨F9, hI⟩ := hI
    obtain ⟨F10, hI⟩ := hI
    obtain ⟨F11, hI⟩ := hI
    obtain ⟨F12, hI⟩ := hI
    obtain ⟨F13, hI⟩ := hI
    obtain ⟨F14, hI⟩ := hI
    obtain ⟨F15, hI⟩ := hI
    obtain ⟨F16, hI⟩ := hI
    obtain ⟨F17, hI⟩ := hI
    obtain ⟨F18, hI⟩ := hI
    have F19 := hI; clear hI
    have hi' : i < 8 := hi
    clear hi
    rcases (by omega : i = 0 ∨ i = 1 ∨ i = 2 ∨ i = 3 ∨ i = 4 ∨ i = 5 ∨ i = 6 ∨ i = 7) with rfl | rfl | rfl | rfl | rfl | rfl | rfl | rfl
    · simp only [List.getElem?_toArray, List.getElem?_cons_zero, Option.some.injEq] at ho
      subst ho
      refine wpOp_step rfl (fun K hK => ?_)
      go_simp
      refine hK _ _ ?_
      exact ⟨_, _, _, _, _, _, _, rfl, fun _ => rfl, lk F1, lk F2, lk F3, lk F4, lk F5, lk F6, fun h => ⟨(F7 (ls (by decide) h)).1, (F7 (ls (by decide) h)).2.1, (F7 (ls (by decide) h)).2.2⟩, F8, F9, F10, F11, F12, fun h => F13 (lsf (by decide) h), fun h => F14 (lsf (by decide) h), fun h => F15 (lsf (by decide) h), F16, F17, F18, F19⟩
    · simp only [List.getElem?_toArray, List.getElem?_cons_zero, List.getElem?_cons_succ, Option.some.injEq] at ho
      subst ho
      obtain rfl := F0 (hd ⟨0, .data⟩ (by simp) rfl)
      have h0 := F9; have h1 := F10
      refine wpOp_step rfl (fun K hK => ?_)
      go_simp
      refine hK _ _ ?_
      exact ⟨_, _, _, _, _, _, _, rfl, lk F0, fun _ => rfl, lk F2, lk F3, lk F4, lk F5, lk F6, fun h => ⟨(F7 (ls (by decide) h)).1, (F7 (ls (by decide) h)).2.1, (F7 (ls (by decide) h)).2.2⟩, F8, F9, F10, F11, F12, fun h => F13 (lsf (by decide) h), fun h => F14 (lsf (by decide) h), fun h => F15 (lsf (by decide) h), F16, F17, F18, F19⟩
    · simp only [List.getElem?_toArray, List.getElem?_cons_zero, List.getElem?_cons_succ, Option.some.injEq] at ho
      subst ho
      refine wpOp_step rfl (fun K hK => ?_)
      go_simp
      refine hK _ _ ?_
      exact ⟨_, _, _, _, _, _, _, rfl, lk F0, lk F1, fun _ => rfl, lk F3, lk F4, lk F5, lk F6, fun h => ⟨(F7 (ls (by decide) h)).1, (F7 (ls (by decide) h)).2.1, (F7 (ls (by decide) h)).2.2⟩, F8, F9, F10, F11, F12, fun h => F13 (lsf (by decide) h), fun h => F14 (lsf (by decide) h), fun h => F15 (lsf (by decide) h), F16, F17, F18, F19⟩
    · simp only [List.getElem?_toArray, List.getElem?_cons_zero, List.getElem?_cons_succ, Option.some.injEq] at ho
      subst ho
      obtain rfl := F2 (hd ⟨2, .data⟩ (by simp) rfl)
      have h0 := F9; have h1 := F10
      refine wpOp_step rfl (fun K hK => ?_)
      go_simp
      refine hK _ _ ?_
      exact ⟨_, _, _, _, _, _, _, rfl, lk F0, lk F1, lk F2, fun _ => rfl, lk F4, lk F5, lk F6, fun h => ⟨(F7 (ls (by decide) h)).1, (F7 (ls (by decide) h)).2.1, (F7 (ls (by decide) h)).2.2⟩, F8, F9, F10, F11, F12, fun h => F13 (lsf (by decide) h), fun h => F14 (lsf (by decide) h), fun h => F15 (lsf (by decide) h), F16, F17, F18, F19⟩
    · simp only [List.getElem?_toArray, List.getElem?_cons_zero, List.getElem?_cons_succ, Option.some.injEq] at ho
      subst ho
      have h0 := F11; have h1 := F12
      refine wpOp_step rfl (fun K hK => ?_)
      go_simp
      refine hK _ _ ?_
      exact ⟨_, _, _, _, _, _, _, rfl, lk F0, lk F1, lk F2, lk F3, fun _ => rfl, lk F5, lk F6, fun h => ⟨(F7 (ls (by decide) h)).1, (F7 (ls (by decide) h)).2.1, (F7 (ls (by decide) h)).2.2⟩, F8, F9, F10, F11, F12, fun h => F13 (lsf (by decide) h), fun h => F14 (lsf (by decide) h), fun h => F15 (lsf (by decide) h), F16, F17, F18, F19⟩
    · simp only [List.getElem?_toArray, List.getElem?_cons_zero, List.getElem?_cons_succ, Option.some.injEq] at ho
      subst ho
      obtain rfl := F4 (hd ⟨4, .data⟩ (by simp) rfl)
      have z_gr := F19
      refine wpOp_step rfl (fun K hK => ?_)
      go_simp
      go_at_call 62
      refine (H1.out _ F8).mono ?_
      rintro e w' ⟨rfl, hb⟩
      refine hK _ _ ?_
      exact ⟨_, _, _, _, _, _, _, rfl, lk F0, lk F1, lk F2, lk F3, lk F4, fun _ => rfl, lk F6, fun h => ⟨cell_call (F7 (ls (by decide) h)).1 hb, cell_call (F7 (ls (by decide) h)).2.1 hb, cell_call (F7 (ls (by decide) h)).2.2 hb⟩, bt F8 hb, cell_call F9 hb, cell_call F10 hb, cell_call F11 hb, cell_call F12 hb, fun h => cell_call (F13 (lsf (by decide) h)) hb, fun h => cell_call (F14 (lsf (by decide) h)) hb, fun h => cell_call (F15 (lsf (by decide) h)) hb, froz_call F16 z_gr hb, froz_call F17 z_gr hb, froz_call F18 z_gr hb, zz hb F19⟩
    · simp only [List.getElem?_toArray, List.getElem?_cons_zero, List.getElem?_cons_succ, Option.some.injEq] at ho
      subst ho
      obtain rfl := F1 (hd ⟨1, .data⟩ (by simp) rfl)
      obtain rfl := F3 (hd ⟨3, .data⟩ (by simp) rfl)
      obtain rfl := F5 (hd ⟨5, .data⟩ (by simp) rfl)
      refine wpOp_step rfl (fun K hK => ?_)
      go_simp
      refine hK _ _ ?_
      exact ⟨_, _, _, _, _, _, _, rfl, lk F0, lk F1, lk F2, lk F3, lk F4, lk F5, fun _ => rfl, fun h => ⟨(F7 (ls (by decide) h)).1, (F7 (ls (by decide) h)).2.1, (F7 (ls (by decide) h)).2.2⟩, F8, F9, F10, F11, F12, fun h => F13 (lsf (by decide) h), fun h => F14 (lsf (by decide) h), fun h => F15 (lsf (by decide) h), F16, F17, F18, F19⟩
    · simp only [List.getElem?_toArray, List.getElem?_cons_zero, List.getElem?_cons_succ, Option.some.injEq] at ho
      subst ho
      obtain rfl := F6 (hd ⟨6, .data⟩ (by simp) rfl)
      have h0 := F13 (lf hn); have h1 := F14 (lf hn); have h2 := F15 (lf hn); have g0 := F16; have g1 := F17; have g2 := F18; have z_gr := F19
      refine wpOp_step rfl (fun K hK => ?_)
      go_simp
      refine hK _ _ ?_
      exact ⟨_, _, _, _, _, _, _, rfl, lk F0, lk F1, lk F2, lk F3, lk F4, lk F5, lk F6, fun _ => ⟨by go_simp, by go_simp, by go_simp⟩, bs (bs (bs F8 p_gr) p_gr) p_gr, cell_far (cell_far (cell_far (F9) n_gk_gr) n_gk_gr) n_gk_gr, cell_far (cell_far (cell_far (F10) n_gk_gr) n_gk_gr) n_gk_gr, cell_far (cell_far (cell_far (F11) n_gc_gr) n_gc_gr) n_gc_gr, cell_far (cell_far (cell_far (F12) n_gc_gr) n_gc_gr) n_gc_gr, fun h => lx hn h, fun h => lx hn h, fun h => lx hn h, (by rw [World.frozen?_setCell, World.frozen?_setCell, World.frozen?_setCell]; exact F16), (by rw [World.frozen?_setCell, World.frozen?_setCell, World.frozen?_setCell]; exact F17), (by rw [World.frozen?_setCell, World.frozen?_setCell, World.frozen?_setCell]; exact F18), (by rw [World.size_setCell, World.size_setCell, World.size_setCell]; exact F19)⟩
  · intro listed A w hall hI
    unfold MaI at hI
    obtain ⟨s9, hI⟩ := hI
    obtain ⟨s10, hI⟩ := hI
    obtain ⟨s11, hI⟩ := hI
    obtain ⟨s12, hI⟩ := hI
    obtain ⟨s13, hI⟩ := hI
    obtain ⟨s14, hI⟩ := hI
    obtain ⟨s15, hI⟩ := hI
    obtain ⟨rfl, hI⟩ := hI
    obtain ⟨F0, hI⟩ := hI
    obtain ⟨F1, hI⟩ := hI
    obtain ⟨F2, hI⟩ := hI
    obtain ⟨F3, hI⟩ := hI
    obtain ⟨F4, hI⟩ := hI
    obtain ⟨F5, hI⟩ := hI
    obtain ⟨F6, hI⟩ := hI
    obtain ⟨F7, hI⟩ := hI
    obtain ⟨F8, hI⟩ := hI
    obtain ⟨F9, hI⟩ := hI
    obtain ⟨F10, hI⟩ := hI
    obtain ⟨F11, hI⟩ := hI
    obtain ⟨F12, hI⟩ := hI
    obtain ⟨F13, hI⟩ := hI
    obtain ⟨F14, hI⟩ := hI
    obtain ⟨F15, hI⟩ := hI
    obtain ⟨F16, hI⟩ := hI
    obtain ⟨F17, hI⟩ := hI
    obtain ⟨F18, hI⟩ := hI
    have F19 := hI; clear hI
    obtain rfl := F0 (hall 0 (by decide))
    obtain rfl := F1 (hall 1 (by decide))
    obtain rfl := F2 (hall 2 (by decide))
    obtain rfl := F3 (hall 3 (by decide))
    obtain rfl := F4 (hall 4 (by decide))
    obtain rfl := F5 (hall 5 (by decide))
    obtain rfl := F6 (hall 6 (by decide))
    have P7 := F7 (hall 7 (by decide))
    have HB := F8
    have Q0 := F9
    have Q1 := F10
    have Q2 := F11
    have Q3 := F12
    have Q7 := F16
    have Q8 := F17
    have Q9 := F18
    have Q10 := F19
    exact hQ _ ⟨P7.1, P7.2.1, P7.2.2, Q10, Q7, Q8, Q9⟩ HB
def TiI (w0 : World) (gk ga gb gr ki ai ao bi bo a0 a1 b0 b1 m0 m1 ri ro : Nat) (kn an bn rn : ByteArray) (c0 c1 c6 c7 c8 c9 c10 c11 : Value) (listed : Array Bool) (A : Act) (w : World) : Prop := ∃ (s12 s13 s14 s15 s16 s17 s18 : Value), A = { tmps := #[c0, c1, .pointer (some ⟨ga, 0, none⟩), .pointer (some ⟨gb, 0, none⟩), .pointer (some ⟨gr, 0, none⟩), .pointer (some ⟨gk, 0, none⟩), c6, c7, c8, c9, c10, c11, s12, s13, s14, s15, s16, s17, s18], defers := [] } ∧
  (listed.getD 0 false = true → s12 = .agg #[.int .i64 (ki : Nat), .string kn]) ∧
  (listed.getD 1 false = true → s13 = .agg #[.int .i64 (ai : Nat), .string an, .int .i64 (ao : Nat)]) ∧
  (listed.getD 2 false = true → s14 = .agg #[.int .i64 (a0 : Nat), .int .i64 (a1 : Nat)]) ∧
  (listed.getD 3 false = true → s15 = .agg #[.int .i64 (bi : Nat), .string bn, .int .i64 (bo : Nat)]) ∧
  (listed.getD 4 false = true → s16 = .agg #[.int .i64 (b0 : Nat), .int .i64 (b1 : Nat)]) ∧
  (listed.getD 5 false = true → s17 = .agg #[.int .i64 (m0 : Nat), .int .i64 (m1 : Nat)]) ∧
  (listed.getD 6 false = true → s18 = .agg #[.int .i64 (ri : Nat), .string rn, .int .i64 (ro : Nat)]) ∧
  (listed.getD 7 false = true → (w.cell? ⟨gr, 0, none⟩ = some (.int .i64 (ri : Nat)) ∧ w.cell? ⟨gr, 1, none⟩ = some (.string rn) ∧ w.cell? ⟨gr, 2, none⟩ = some (.int .i64 (ro : Nat)))) ∧
  Below w0.heap.size w0 w ∧
  w.cell? ⟨gk, 0, none⟩ = some (.int .i64 (ki : Nat)) ∧
  w.cell? ⟨gk, 1, none⟩ = some (.string kn) ∧
  w.cell? ⟨ga, 0, none⟩ = some (.int .i64 (ai : Nat)) ∧
  w.cell? ⟨ga, 1, none⟩ = some (.string an) ∧
  w.cell? ⟨ga, 2, none⟩ = some (.int .i64 (ao : Nat)) ∧
  w.cell? ⟨gb, 0, none⟩ = some (.int .i64 (bi : Nat)) ∧
  w.cell? ⟨gb, 1, none⟩ = some (.string bn) ∧
  w.cell? ⟨gb, 2, none⟩ = some (.int .i64 (bo : Nat)) ∧
  (listed.getD 7 false = false → w.cell? ⟨gr, 0, none⟩ = some (.int .i64 0)) ∧
  (listed.getD 7 false = false → w.cell? ⟨gr, 1, none⟩ = some (.string ⟨#[]⟩)) ∧
  (listed.getD 7 false = false → w.cell? ⟨gr, 2, none⟩ = some (.int .i64 0)) ∧
  w.frozen? ⟨gr, 0, none⟩ = false ∧
  w.frozen? ⟨gr, 1, none⟩ = false ∧
  w.frozen? ⟨gr, 2, none⟩ = false ∧
  gr < w.heap.size
set_option maxRecDepth 100000 in
set_option maxHeartbeats 16000000 in
theorem Ti_region (gk ga gb gr ki ai ao bi bo a0 a1 b0 b1 m0 m1 ri ro : Nat) (kn an bn rn : ByteArray) {x12 x13 x14 x15 x16 x17 x18 : Value} {c0 c1 c6 c7 c8 c9 c10 c11 : Value} (w0 : World) {W : World} {Q : Exit → Act → World → Prop} (hb0 : Below w0.heap.size w0 W) (C0 : W.cell? ⟨gk, 0, none⟩ = some (.int .i64 (ki : Nat))) (C1 : W.cell? ⟨gk, 1, none⟩ = some (.string kn)) (C2 : W.cell? ⟨ga, 0, none⟩ = some (.int .i64 (ai : Nat))) (C3 : W.cell? ⟨ga, 1, none⟩ = some (.string an)) (C4 : W.cell? ⟨ga, 2, none⟩ = some (.int .i64 (ao : Nat))) (C5 : W.cell? ⟨gb, 0, none⟩ = some (.int .i64 (bi : Nat))) (C6 : W.cell? ⟨gb, 1, none⟩ = some (.string bn)) (C7 : W.cell? ⟨gb, 2, none⟩ = some (.int .i64 (bo : Nat))) (C8 : W.cell? ⟨gr, 0, none⟩ = some (.int .i64 0)) (C9 : W.cell? ⟨gr, 1, none⟩ = some (.string ⟨#[]⟩)) (C10 : W.cell? ⟨gr, 2, none⟩ = some (.int .i64 0)) (C11 : W.frozen? ⟨gr, 0, none⟩ = false) (C12 : W.frozen? ⟨gr, 1, none⟩ = false) (C13 : W.frozen? ⟨gr, 2, none⟩ = false) (C14 : gr < W.heap.size) (H1 : Hid (∀ w1, Below w0.heap.size w0 w1 → Calls Tryd.prog 36 #[.agg #[.int .i64 (ai : Nat), .string an, .int .i64 (ao : Nat)]] w1 fun e w' => e = .returned (.agg #[.int .i64 (a0 : Nat), .int .i64 (a1 : Nat)]) ∧ Below w1.heap.size w1 w')) (H2 : Hid (∀ w1, Below w0.heap.size w0 w1 → Calls Tryd.prog 36 #[.agg #[.int .i64 (bi : Nat), .string bn, .int .i64 (bo : Nat)]] w1 fun e w' => e = .returned (.agg #[.int .i64 (b0 : Nat), .int .i64 (b1 : Nat)]) ∧ Below w1.heap.size w1 w')) (H3 : Hid (∀ w1, Below w0.heap.size w0 w1 → Calls Tryd.prog 50 #[.agg #[.int .i64 (a0 : Nat), .int .i64 (a1 : Nat)], .agg #[.int .i64 (b0 : Nat), .int .i64 (b1 : Nat)]] w1 fun e w' => e = .returned (.agg #[.int .i64 (m0 : Nat), .int .i64 (m1 : Nat)]) ∧ Below w1.heap.size w1 w')) (H4 : Hid (∀ w1, Below w0.heap.size w0 w1 → Calls Tryd.prog 46 #[.agg #[.int .i64 (ki : Nat), .string kn], .agg #[.int .i64 (m0 : Nat), .int .i64 (m1 : Nat)]] w1 fun e w' => e = .returned (.agg #[.int .i64 (ri : Nat), .string rn, .int .i64 (ro : Nat)]) ∧ Below w1.heap.size w1 w')) (p_gr : w0.heap.size ≤ gr) (n_gk_gr : gk ≠ gr) (n_ga_gr : ga ≠ gr) (n_gb_gr : gb ≠ gr)
    (hQ : ∀ (w : World) , (w.cell? ⟨gr, 0, none⟩ = some (.int .i64 (ri : Nat)) ∧ w.cell? ⟨gr, 1, none⟩ = some (.string rn) ∧ w.cell? ⟨gr, 2, none⟩ = some (.int .i64 (ro : Nat)) ∧ gr < w.heap.size ∧ w.frozen? ⟨gr, 0, none⟩ = false ∧ w.frozen? ⟨gr, 1, none⟩ = false ∧ w.frozen? ⟨gr, 2, none⟩ = false) → Below w0.heap.size w0 w → Q .normal { tmps := #[c0, c1, .pointer (some ⟨ga, 0, none⟩), .pointer (some ⟨gb, 0, none⟩), .pointer (some ⟨gr, 0, none⟩), .pointer (some ⟨gk, 0, none⟩), c6, c7, c8, c9, c10, c11, .agg #[.int .i64 (ki : Nat), .string kn], .agg #[.int .i64 (ai : Nat), .string an, .int .i64 (ao : Nat)], .agg #[.int .i64 (a0 : Nat), .int .i64 (a1 : Nat)], .agg #[.int .i64 (bi : Nat), .string bn, .int .i64 (bo : Nat)], .agg #[.int .i64 (b0 : Nat), .int .i64 (b1 : Nat)], .agg #[.int .i64 (m0 : Nat), .int .i64 (m1 : Nat)], .agg #[.int .i64 (ri : Nat), .string rn, .int .i64 (ro : Nat)]], defers := [] } w) :
    Code.wp Tryd.prog ((Tryd.f24.body.bind (regionOf 4)).getD .skip) Q { tmps := #[c0, c1, .pointer (some ⟨ga, 0, none⟩), .pointer (some ⟨gb, 0, none⟩), .pointer (some ⟨gr, 0, none⟩), .pointer (some ⟨gk, 0, none⟩), c6, c7, c8, c9, c10, c11, x12, x13, x14, x15, x16, x17, x18], defers := [] } W := by
  conv => arg 2; whnf
  refine wp_region_inv (by kernel_rfl) (by kernel_rfl) (TiI w0 gk ga gb gr ki ai ao bi bo a0 a1 b0 b1 m0 m1 ri ro kn an bn rn c0 c1 c6 c7 c8 c9 c10 c11) ?_ ?_ ?_
  · exact ⟨_, _, _, _, _, _, _, rfl, fun h => absurd h l0, fun h => absurd h l0, fun h => absurd h l0, fun h => absurd h l0, fun h => absurd h l0, fun h => absurd h l0, fun h => absurd h l0, fun h => absurd h l0, bdr hb0, C0, C1, C2, C3, C4, C5, C6, C7, fun _ => C8, fun _ => C9, fun _ => C10, C11, C12, C13, C14⟩
  · intro i o listed A w hi ho hd hn hI
    unfold TiI at hI
    obtain ⟨s12, hI⟩ := hI
    obtain ⟨s13, hI⟩ := hI
    obtain ⟨s14, hI⟩ := hI
    obtain ⟨s15, hI⟩ := hI
    obtain ⟨s16, hI⟩ := hI
    obtain ⟨s17, hI⟩ := hI
    obtain ⟨s18, hI⟩ := hI
    obtain ⟨rfl, hI⟩ := hI
    obtain ⟨F0, hI⟩ := hI
    obtain ⟨F1, hI⟩ := hI
    obtain ⟨F2, hI⟩ := hI
    obtain ⟨F3, hI⟩ := hI
    obtain ⟨F4, hI⟩ := hI
    obtain ⟨F5, hI⟩ := hI
    obtain ⟨F6, hI⟩ := hI
    obtain ⟨F7, hI⟩ := hI
    obtain ⟨F8, hI⟩ := hI
    obtain ⟨F9, hI⟩ := hI
    obtain ⟨F10, hI⟩ := hI
    obtain ⟨F11, hI⟩ := hI
    obtain ⟨F12, hI⟩ := hI
    obtain ⟨F13, hI⟩ := hI
    obtain ⟨F14, hI⟩ := hI
    obtain ⟨F15, hI⟩ := hI
    obtain ⟨F16, hI⟩ := hI
    obtain ⟨F17, hI⟩ := hI
    obtain ⟨F18, hI⟩ := hI
    obtain ⟨F19, hI⟩ := hI
    obtain ⟨F20, hI⟩ := hI
    obtain ⟨F21, hI⟩ := hI
    obtain ⟨F22, hI⟩ := hI
    have F23 := hI; clear hI
    have hi' : i < 8 := hi
    clear hi
    rcases (by omega : i = 0 ∨ i = 1 ∨ i = 2 ∨ i = 3 ∨ i = 4 ∨ i = 5 ∨ i = 6 ∨ i = 7) with rfl | rfl | rfl | rfl | rfl | rfl | rfl | rfl
    · simp only [List.getElem?_toArray, List.getElem?_cons_zero, Option.some.injEq] at ho
      subst ho
      have h0 := F9; have h1 := F10
      refine wpOp_step rfl (fun K hK => ?_)
      go_simp
      refine hK _ _ ?_
      exact ⟨_, _, _, _, _, _, _, rfl, fun _ => rfl, lk F1, lk F2, lk F3, lk F4, lk F5, lk F6, fun h => ⟨(F7 (ls (by decide) h)).1, (F7 (ls (by decide) h)).2.1, (F7 (ls (by decide) h)).2.2⟩, F8, F9, F10, F11, F12, F13, F14, F15, F16, fun h => F17 (lsf (by decide) h), fun h => F18 (lsf (by decide) h), fun h => F19 (lsf (by decide) h), F20, F21, F22, F23⟩
    · simp only [List.getElem?_toArray, List.getElem?_cons_zero, List.getElem?_cons_succ, Option.some.injEq] at ho
      subst ho
      have h0 := F11; have h1 := F12; have h2 := F13
      refine wpOp_step rfl (fun K hK => ?_)
      go_simp
      refine hK _ _ ?_
      exact ⟨_, _, _, _, _, _, _, rfl, lk F0, fun _ => rfl, lk F2, lk F3, lk F4, lk F5, lk F6, fun h => ⟨(F7 (ls (by decide) h)).1, (F7 (ls (by decide) h)).2.1, (F7 (ls (by decide) h)).2.2⟩, F8, F9, F10, F11, F12, F13, F14, F15, F16, fun h => F17 (lsf (by decide) h), fun h => F18 (lsf (by decide) h), fun h => F19 (lsf (by decide) h), F20, F21, F22, F23⟩
    · simp only [List.getElem?_toArray, List.getElem?_cons_zero, List.getElem?_cons_succ, Option.some.injEq] at ho
      subst ho
      obtain rfl := F1 (hd ⟨1, .data⟩ (by simp) rfl)
      have z_gr := F23
      refine wpOp_step rfl (fun K hK => ?_)
      go_simp
      go_at_call 36
      refine (H1.out _ F8).mono ?_
      rintro e w' ⟨rfl, hb⟩
      refine hK _ _ ?_
      exact ⟨_, _, _, _, _, _, _, rfl, lk F0, lk F1, fun _ => rfl, lk F3, lk F4, lk F5, lk F6, fun h => ⟨cell_call (F7 (ls (by decide) h)).1 hb, cell_call (F7 (ls (by decide) h)).2.1 hb, cell_call (F7 (ls (by decide) h)).2.2 hb⟩, bt F8 hb, cell_call F9 hb, cell_call F10 hb, cell_call F11 hb, cell_call F12 hb, cell_call F13 hb, cell_call F14 hb, cell_call F15 hb, cell_call F16 hb, fun h => cell_call (F17 (lsf (by decide) h)) hb, fun h => cell_call (F18 (lsf (by decide) h)) hb, fun h => cell_call (F19 (lsf (by decide) h)) hb, froz_call F20 z_gr hb, froz_call F21 z_gr hb, froz_call F22 z_gr hb, zz hb F23⟩
    · simp only [List.getElem?_toArray, List.getElem?_cons_zero, List.getElem?_cons_succ, Option.some.injEq] at ho
      subst ho
      have h0 := F14; have h1 := F15; have h2 := F16
      refine wpOp_step rfl (fun K hK => ?_)
      go_simp
      refine hK _ _ ?_
      exact ⟨_, _, _, _, _, _, _, rfl, lk F0, lk F1, lk F2, fun _ => rfl, lk F4, lk F5, lk F6, fun h => ⟨(F7 (ls (by decide) h)).1, (F7 (ls (by decide) h)).2.1, (F7 (ls (by decide) h)).2.2⟩, F8, F9, F10, F11, F12, F13, F14, F15, F16, fun h => F17 (lsf (by decide) h), fun h => F18 (lsf (by decide) h), fun h => F19 (lsf (by decide) h), F20, F21, F22, F23⟩
    · simp only [List.getElem?_toArray, List.getElem?_cons_zero, List.getElem?_cons_succ, Option.some.injEq] at ho
      subst ho
      obtain rfl := F3 (hd ⟨3, .data⟩ (by simp) rfl)
      have z_gr := F23
      refine wpOp_step rfl (fun K hK => ?_)
      go_simp
      go_at_call 36
      refine (H2.out _ F8).mono ?_
      rintro e w' ⟨rfl, hb⟩
      refine hK _ _ ?_
      exact ⟨_, _, _, _, _, _, _, rfl, lk F0, lk F1, lk F2, lk F3, fun _ => rfl, lk F5, lk F6, fun h => ⟨cell_call (F7 (ls (by decide) h)).1 hb, cell_call (F7 (ls (by decide) h)).2.1 hb, cell_call (F7 (ls (by decide) h)).2.2 hb⟩, bt F8 hb, cell_call F9 hb, cell_call F10 hb, cell_call F11 hb, cell_call F12 hb, cell_call F13 hb, cell_call F14 hb, cell_call F15 hb, cell_call F16 hb, fun h => cell_call (F17 (lsf (by decide) h)) hb, fun h => cell_call (F18 (lsf (by decide) h)) hb, fun h => cell_call (F19 (lsf (by decide) h)) hb, froz_call F20 z_gr hb, froz_call F21 z_gr hb, froz_call F22 z_gr hb, zz hb F23⟩
    · simp only [List.getElem?_toArray, List.getElem?_cons_zero, List.getElem?_cons_succ, Option.some.injEq] at ho
      subst ho
      obtain rfl := F2 (hd ⟨2, .data⟩ (by simp) rfl)
      obtain rfl := F4 (hd ⟨4, .data⟩ (by simp) rfl)
      have z_gr := F23
      refine wpOp_step rfl (fun K hK => ?_)
      go_simp
      go_at_call 50
      refine (H3.out _ F8).mono ?_
      rintro e w' ⟨rfl, hb⟩
      refine hK _ _ ?_
      exact ⟨_, _, _, _, _, _, _, rfl, lk F0, lk F1, lk F2, lk F3, lk F4, fun _ => rfl, lk F6, fun h => ⟨cell_call (F7 (ls (by decide) h)).1 hb, cell_call (F7 (ls (by decide) h)).2.1 hb, cell_call (F7 (ls (by decide) h)).2.2 hb⟩, bt F8 hb, cell_call F9 hb, cell_call F10 hb, cell_call F11 hb, cell_call F12 hb, cell_call F13 hb, cell_call F14 hb, cell_call F15 hb, cell_call F16 hb, fun h => cell_call (F17 (lsf (by decide) h)) hb, fun h => cell_call (F18 (lsf (by decide) h)) hb, fun h => cell_call (F19 (lsf (by decide) h)) hb, froz_call F20 z_gr hb, froz_call F21 z_gr hb, froz_call F22 z_gr hb, zz hb F23⟩
    · simp only [List.getElem?_toArray, List.getElem?_cons_zero, List.getElem?_cons_succ, Option.some.injEq] at ho
      subst ho
      obtain rfl := F0 (hd ⟨0, .data⟩ (by simp) rfl)
      obtain rfl := F5 (hd ⟨5, .data⟩ (by simp) rfl)
      have z_gr := F23
      refine wpOp_step rfl (fun K hK => ?_)
      go_simp
      go_at_call 46
      refine (H4.out _ F8).mono ?_
      rintro e w' ⟨rfl, hb⟩
      refine hK _ _ ?_
      exact ⟨_, _, _, _, _, _, _, rfl, lk F0, lk F1, lk F2, lk F3, lk F4, lk F5, fun _ => rfl, fun h => ⟨cell_call (F7 (ls (by decide) h)).1 hb, cell_call (F7 (ls (by decide) h)).2.1 hb, cell_call (F7 (ls (by decide) h)).2.2 hb⟩, bt F8 hb, cell_call F9 hb, cell_call F10 hb, cell_call F11 hb, cell_call F12 hb, cell_call F13 hb, cell_call F14 hb, cell_call F15 hb, cell_call F16 hb, fun h => cell_call (F17 (lsf (by decide) h)) hb, fun h => cell_call (F18 (lsf (by decide) h)) hb, fun h => cell_call (F19 (lsf (by decide) h)) hb, froz_call F20 z_gr hb, froz_call F21 z_gr hb, froz_call F22 z_gr hb, zz hb F23⟩
    · simp only [List.getElem?_toArray, List.getElem?_cons_zero, List.getElem?_cons_succ, Option.some.injEq] at ho
      subst ho
      obtain rfl := F6 (hd ⟨6, .data⟩ (by simp) rfl)
      have h0 := F17 (lf hn); have h1 := F18 (lf hn); have h2 := F19 (lf hn); have g0 := F20; have g1 := F21; have g2 := F22; have z_gr := F23
      refine wpOp_step rfl (fun K hK => ?_)
      go_simp
      refine hK _ _ ?_
      exact ⟨_, _, _, _, _, _, _, rfl, lk F0, lk F1, lk F2, lk F3, lk F4, lk F5, lk F6, fun _ => ⟨by go_simp, by go_simp, by go_simp⟩, bs (bs (bs F8 p_gr) p_gr) p_gr, cell_far (cell_far (cell_far (F9) n_gk_gr) n_gk_gr) n_gk_gr, cell_far (cell_far (cell_far (F10) n_gk_gr) n_gk_gr) n_gk_gr, cell_far (cell_far (cell_far (F11) n_ga_gr) n_ga_gr) n_ga_gr, cell_far (cell_far (cell_far (F12) n_ga_gr) n_ga_gr) n_ga_gr, cell_far (cell_far (cell_far (F13) n_ga_gr) n_ga_gr) n_ga_gr, cell_far (cell_far (cell_far (F14) n_gb_gr) n_gb_gr) n_gb_gr, cell_far (cell_far (cell_far (F15) n_gb_gr) n_gb_gr) n_gb_gr, cell_far (cell_far (cell_far (F16) n_gb_gr) n_gb_gr) n_gb_gr, fun h => lx hn h, fun h => lx hn h, fun h => lx hn h, (by rw [World.frozen?_setCell, World.frozen?_setCell, World.frozen?_setCell]; exact F20), (by rw [World.frozen?_setCell, World.frozen?_setCell, World.frozen?_setCell]; exact F21), (by rw [World.frozen?_setCell, World.frozen?_setCell, World.frozen?_setCell]; exact F22), (by rw [World.size_setCell, World.size_setCell, World.size_setCell]; exact F23)⟩
  · intro listed A w hall hI
    unfold TiI at hI
    obtain ⟨s12, hI⟩ := hI
    obtain ⟨s13, hI⟩ := hI
    obtain ⟨s14, hI⟩ := hI
    obtain ⟨s15, hI⟩ := hI
    obtain ⟨s16, hI⟩ := hI
    obtain ⟨s17, hI⟩ := hI
    obtain ⟨s18, hI⟩ := hI
    obtain ⟨rfl, hI⟩ := hI
    obtain ⟨F0, hI⟩ := hI
    obtain ⟨F1, hI⟩ := hI
    obtain ⟨F2, hI⟩ := hI
    obtain ⟨F3, hI⟩ := hI
    obtain ⟨F4, hI⟩ := hI
    obtain ⟨F5, hI⟩ := hI
    obtain ⟨F6, hI⟩ := hI
    obtain ⟨F7, hI⟩ := hI
    obtain ⟨F8, hI⟩ := hI
    obtain ⟨F9, hI⟩ := hI
    obtain ⟨F10, hI⟩ := hI
    obtain ⟨F11, hI⟩ := hI
    obtain ⟨F12, hI⟩ := hI
    obtain ⟨F13, hI⟩ := hI
    obtain ⟨F14, hI⟩ := hI
    obtain ⟨F15, hI⟩ := hI
    obtain ⟨F16, hI⟩ := hI
    obtain ⟨F17, hI⟩ := hI
    obtain ⟨F18, hI⟩ := hI
    obtain ⟨F19, hI⟩ := hI
    obtain ⟨F20, hI⟩ := hI
    obtain ⟨F21, hI⟩ := hI
    obtain ⟨F22, hI⟩ := hI
    have F23 := hI; clear hI
    obtain rfl := F0 (hall 0 (by decide))
    obtain rfl := F1 (hall 1 (by decide))
    obtain rfl := F2 (hall 2 (by decide))
    obtain rfl := F3 (hall 3 (by decide))
    obtain rfl := F4 (hall 4 (by decide))
    obtain rfl := F5 (hall 5 (by decide))
    obtain rfl := F6 (hall 6 (by decide))
    have P7 := F7 (hall 7 (by decide))
    have HB := F8
    have Q0 := F9
    have Q1 := F10
    have Q2 := F11
    have Q3 := F12
    have Q4 := F13
    have Q5 := F14
    have Q6 := F15
    have Q7 := F16
    have Q11 := F20
    have Q12 := F21
    have Q13 := F22
    have Q14 := F23
    exact hQ _ ⟨P7.1, P7.2.1, P7.2.2, Q14, Q11, Q12, Q13⟩ HB
def SaI (w0 : World) (ga gb ai ao bi bo a0 a1 b0 b1 : Nat) (an bn : ByteArray) (r : Bool) (c0 c1 : Value) (listed : Array Bool) (A : Act) (w : World) : Prop := ∃ (s4 s5 s6 s7 s8 s9 s10 s11 s12 s13 s14 s15 s16 : Value), A = { tmps := #[c0, c1, .pointer (some ⟨ga, 0, none⟩), .pointer (some ⟨gb, 0, none⟩), s4, s5, s6, s7, s8, s9, s10, s11, s12, s13, s14, s15, s16], defers := [] } ∧
  (listed.getD 0 false = true → s5 = .agg #[.int .i64 (ai : Nat), .string an, .int .i64 (ao : Nat)]) ∧
  (listed.getD 1 false = true → s6 = .agg #[.int .i64 (a0 : Nat), .int .i64 (a1 : Nat)]) ∧
  (listed.getD 2 false = true → s7 = .agg #[.int .i64 (bi : Nat), .string bn, .int .i64 (bo : Nat)]) ∧
  (listed.getD 3 false = true → s8 = .agg #[.int .i64 (b0 : Nat), .int .i64 (b1 : Nat)]) ∧
  (listed.getD 4 false = true → s9 = .bool true) ∧
  (listed.getD 5 false = true → s10 = .bool true) ∧
  (listed.getD 6 false = true → s11 = .agg #[.int .i64 (ai : Nat), .string an, .int .i64 (ao : Nat)]) ∧
  (listed.getD 7 false = true → s12 = .agg #[.int .i64 (ai : Nat), .string an]) ∧
  (listed.getD 8 false = true → s13 = .agg #[.int .i64 (bi : Nat), .string bn, .int .i64 (bo : Nat)]) ∧
  (listed.getD 9 false = true → s14 = .agg #[.int .i64 (bi : Nat), .string bn]) ∧
  (listed.getD 10 false = true → s15 = .bool r) ∧
  (listed.getD 11 false = true → s16 = .bool r) ∧
  (listed.getD 12 false = true → s4 = .bool r) ∧
  Below w0.heap.size w0 w ∧
  w.cell? ⟨ga, 0, none⟩ = some (.int .i64 (ai : Nat)) ∧
  w.cell? ⟨ga, 1, none⟩ = some (.string an) ∧
  w.cell? ⟨ga, 2, none⟩ = some (.int .i64 (ao : Nat)) ∧
  w.cell? ⟨gb, 0, none⟩ = some (.int .i64 (bi : Nat)) ∧
  w.cell? ⟨gb, 1, none⟩ = some (.string bn) ∧
  w.cell? ⟨gb, 2, none⟩ = some (.int .i64 (bo : Nat))
set_option maxRecDepth 100000 in
set_option maxHeartbeats 16000000 in
theorem Sa_region (ga gb ai ao bi bo a0 a1 b0 b1 : Nat) (an bn : ByteArray) (r : Bool) {x4 x5 x6 x7 x8 x9 x10 x11 x12 x13 x14 x15 x16 : Value} {c0 c1 : Value} (w0 : World) {W : World} {Q : Exit → Act → World → Prop} (hb0 : Below w0.heap.size w0 W) (C0 : W.cell? ⟨ga, 0, none⟩ = some (.int .i64 (ai : Nat))) (C1 : W.cell? ⟨ga, 1, none⟩ = some (.string an)) (C2 : W.cell? ⟨ga, 2, none⟩ = some (.int .i64 (ao : Nat))) (C3 : W.cell? ⟨gb, 0, none⟩ = some (.int .i64 (bi : Nat))) (C4 : W.cell? ⟨gb, 1, none⟩ = some (.string bn)) (C5 : W.cell? ⟨gb, 2, none⟩ = some (.int .i64 (bo : Nat))) (H1 : Hid (∀ w1, Below w0.heap.size w0 w1 → Calls Tryd.prog 36 #[.agg #[.int .i64 (ai : Nat), .string an, .int .i64 (ao : Nat)]] w1 fun e w' => e = .returned (.agg #[.int .i64 (a0 : Nat), .int .i64 (a1 : Nat)]) ∧ Below w1.heap.size w1 w')) (H2 : Hid (∀ w1, Below w0.heap.size w0 w1 → Calls Tryd.prog 36 #[.agg #[.int .i64 (bi : Nat), .string bn, .int .i64 (bo : Nat)]] w1 fun e w' => e = .returned (.agg #[.int .i64 (b0 : Nat), .int .i64 (b1 : Nat)]) ∧ Below w1.heap.size w1 w')) (H3 : Hid (∀ w1, Below w0.heap.size w0 w1 → Calls Tryd.prog 35 #[.agg #[.int .i64 (a0 : Nat), .int .i64 (a1 : Nat)], .agg #[.int .i64 (b0 : Nat), .int .i64 (b1 : Nat)]] w1 fun e w' => e = .returned (.bool true) ∧ Below w1.heap.size w1 w')) (H4 : Hid (∀ w1, Below w0.heap.size w0 w1 → Calls Tryd.prog 41 #[.agg #[.int .i64 (ai : Nat), .string an, .int .i64 (ao : Nat)]] w1 fun e w' => e = .returned (.agg #[.int .i64 (ai : Nat), .string an]) ∧ Below w1.heap.size w1 w')) (H5 : Hid (∀ w1, Below w0.heap.size w0 w1 → Calls Tryd.prog 41 #[.agg #[.int .i64 (bi : Nat), .string bn, .int .i64 (bo : Nat)]] w1 fun e w' => e = .returned (.agg #[.int .i64 (bi : Nat), .string bn]) ∧ Below w1.heap.size w1 w')) (H6 : Hid (∀ w1, Below w0.heap.size w0 w1 → Calls Tryd.prog 42 #[.agg #[.int .i64 (ai : Nat), .string an], .agg #[.int .i64 (bi : Nat), .string bn]] w1 fun e w' => e = .returned (.bool r) ∧ Below w1.heap.size w1 w'))
    (hQ : ∀ (w : World) , (True) → Below w0.heap.size w0 w → Q .normal { tmps := #[c0, c1, .pointer (some ⟨ga, 0, none⟩), .pointer (some ⟨gb, 0, none⟩), .bool r, .agg #[.int .i64 (ai : Nat), .string an, .int .i64 (ao : Nat)], .agg #[.int .i64 (a0 : Nat), .int .i64 (a1 : Nat)], .agg #[.int .i64 (bi : Nat), .string bn, .int .i64 (bo : Nat)], .agg #[.int .i64 (b0 : Nat), .int .i64 (b1 : Nat)], .bool true, .bool true, .agg #[.int .i64 (ai : Nat), .string an, .int .i64 (ao : Nat)], .agg #[.int .i64 (ai : Nat), .string an], .agg #[.int .i64 (bi : Nat), .string bn, .int .i64 (bo : Nat)], .agg #[.int .i64 (bi : Nat), .string bn], .bool r, .bool r], defers := [] } w) :
    Code.wp Tryd.prog ((Tryd.f22.body.bind (regionOf 1)).getD .skip) Q { tmps := #[c0, c1, .pointer (some ⟨ga, 0, none⟩), .pointer (some ⟨gb, 0, none⟩), x4, x5, x6, x7, x8, x9, x10, x11, x12, x13, x14, x15, x16], defers := [] } W := by
  conv => arg 2; whnf
  refine wp_region_inv (by kernel_rfl) (by kernel_rfl) (SaI w0 ga gb ai ao bi bo a0 a1 b0 b1 an bn r c0 c1) ?_ ?_ ?_
  · exact ⟨_, _, _, _, _, _, _, _, _, _, _, _, _, rfl, fun h => absurd h l0, fun h => absurd h l0, fun h => absurd h l0, fun h => absurd h l0, fun h => absurd h l0, fun h => absurd h l0, fun h => absurd h l0, fun h => absurd h l0, fun h => absurd h l0, fun h => absurd h l0, fun h => absurd h l0, fun h => absurd h l0, fun h => absurd h l0, bdr hb0, C0, C1, C2, C3, C4, C5⟩
  · intro i o listed A w hi ho hd hn hI
    unfold SaI at hI
    obtain ⟨s4, hI⟩ := hI
    obtain ⟨s5, hI⟩ := hI
    obtain ⟨s6, hI⟩ := hI
    obtain ⟨s7, hI⟩ := hI
    obtain ⟨s8, hI⟩ := hI
    obtain ⟨s9, hI⟩ := hI
    obtain ⟨s10, hI⟩ := hI
    obtain ⟨s11, hI⟩ := hI
    obtain ⟨s12, hI⟩ := hI
    obtain ⟨s13, hI⟩ := hI
    obtain ⟨s14, hI⟩ := hI
    obtain ⟨s15, hI⟩ := hI
    obtain ⟨s16, hI⟩ := hI
    obtain ⟨rfl, hI⟩ := hI
    obtain ⟨F0, hI⟩ := hI
    obtain ⟨F1, hI⟩ := hI
    obtain ⟨F2, hI⟩ := hI
    obtain ⟨F3, hI⟩ := hI
    obtain ⟨F4, hI⟩ := hI
    obtain ⟨F5, hI⟩ := hI
    obtain ⟨F6, hI⟩ := hI
    obtain ⟨F7, hI⟩ := hI
    obtain ⟨F8, hI⟩ := hI
    obtain ⟨F9, hI⟩ := hI
    obtain ⟨F10, hI⟩ := hI
    obtain ⟨F11, hI⟩ := hI
    obtain ⟨F12, hI⟩ := hI
    obtain ⟨F13, hI⟩ := hI
    obtain ⟨F14, hI⟩ := hI
    obtain ⟨F15, hI⟩ := hI
    obtain ⟨F16, hI⟩ := hI
    obtain ⟨F17, hI⟩ := hI
    obtain ⟨F18, hI⟩ := hI
    have F19 := hI; clear hI
    have hi' : i < 13 := hi
    clear hi
    rcases (by omega : i = 0 ∨ i = 1 ∨ i = 2 ∨ i = 3 ∨ i = 4 ∨ i = 5 ∨ i = 6 ∨ i = 7 ∨ i = 8 ∨ i = 9 ∨ i = 10 ∨ i = 11 ∨ i = 12) with rfl | rfl | rfl | rfl | rfl | rfl | rfl | rfl | rfl | rfl | rfl | rfl | rfl
    · simp only [List.getElem?_toArray, List.getElem?_cons_zero, Option.some.injEq] at ho
      subst ho
      have h0 := F14; have h1 := F15; have h2 := F16
      refine wpOp_step rfl (fun K hK => ?_)
      go_simp
      refine hK _ _ ?_
      exact ⟨_, _, _, _, _, _, _, _, _, _, _, _, _, rfl, fun _ => rfl, lk F1, lk F2, lk F3, lk F4, lk F5, lk F6, lk F7, lk F8, lk F9, lk F10, lk F11, lk F12, F13, F14, F15, F16, F17, F18, F19⟩
    · simp only [List.getElem?_toArray, List.getElem?_cons_zero, List.getElem?_cons_succ, Option.some.injEq] at ho
      subst ho
      obtain rfl := F0 (hd ⟨0, .data⟩ (by simp) rfl)
      refine wpOp_step rfl (fun K hK => ?_)
      go_simp
      go_at_call 36
      refine (H1.out _ F13).mono ?_
      rintro e w' ⟨rfl, hb⟩
      refine hK _ _ ?_
      exact ⟨_, _, _, _, _, _, _, _, _, _, _, _, _, rfl, lk F0, fun _ => rfl, lk F2, lk F3, lk F4, lk F5, lk F6, lk F7, lk F8, lk F9, lk F10, lk F11, lk F12, bt F13 hb, cell_call F14 hb, cell_call F15 hb, cell_call F16 hb, cell_call F17 hb, cell_call F18 hb, cell_call F19 hb⟩
    · simp only [List.getElem?_toArray, List.getElem?_cons_zero, List.getElem?_cons_succ, Option.some.injEq] at ho
      subst ho
      have h0 := F17; have h1 := F18; have h2 := F19
      refine wpOp_step rfl (fun K hK => ?_)
      go_simp
      refine hK _ _ ?_
      exact ⟨_, _, _, _, _, _, _, _, _, _, _, _, _, rfl, lk F0, lk F1, fun _ => rfl, lk F3, lk F4, lk F5, lk F6, lk F7, lk F8, lk F9, lk F10, lk F11, lk F12, F13, F14, F15, F16, F17, F18, F19⟩
    · simp only [List.getElem?_toArray, List.getElem?_cons_zero, List.getElem?_cons_succ, Option.some.injEq] at ho
      subst ho
      obtain rfl := F2 (hd ⟨2, .data⟩ (by simp) rfl)
      refine wpOp_step rfl (fun K hK => ?_)
      go_simp
      go_at_call 36
      refine (H2.out _ F13).mono ?_
      rintro e w' ⟨rfl, hb⟩
      refine hK _ _ ?_
      exact ⟨_, _, _, _, _, _, _, _, _, _, _, _, _, rfl, lk F0, lk F1, lk F2, fun _ => rfl, lk F4, lk F5, lk F6, lk F7, lk F8, lk F9, lk F10, lk F11, lk F12, bt F13 hb, cell_call F14 hb, cell_call F15 hb, cell_call F16 hb, cell_call F17 hb, cell_call F18 hb, cell_call F19 hb⟩
    · simp only [List.getElem?_toArray, List.getElem?_cons_zero, List.getElem?_cons_succ, Option.some.injEq] at ho
      subst ho
      obtain rfl := F1 (hd ⟨1, .data⟩ (by simp) rfl)
      obtain rfl := F3 (hd ⟨3, .data⟩ (by simp) rfl)
      refine wpOp_step rfl (fun K hK => ?_)
      go_simp
      go_at_call 35
      refine (H3.out _ F13).mono ?_
      rintro e w' ⟨rfl, hb⟩
      refine hK _ _ ?_
      exact ⟨_, _, _, _, _, _, _, _, _, _, _, _, _, rfl, lk F0, lk F1, lk F2, lk F3, fun _ => rfl, lk F5, lk F6, lk F7, lk F8, lk F9, lk F10, lk F11, lk F12, bt F13 hb, cell_call F14 hb, cell_call F15 hb, cell_call F16 hb, cell_call F17 hb, cell_call F18 hb, cell_call F19 hb⟩
    · simp only [List.getElem?_toArray, List.getElem?_cons_zero, List.getElem?_cons_succ, Option.some.injEq] at ho
      subst ho
      obtain rfl := F4 (hd ⟨4, .data⟩ (by simp) rfl)
      refine wpOp_step rfl (fun K hK => ?_)
      go_simp
      refine hK _ _ ?_
      exact ⟨_, _, _, _, _, _, _, _, _, _, _, _, _, rfl, lk F0, lk F1, lk F2, lk F3, lk F4, fun _ => rfl, lk F6, lk F7, lk F8, lk F9, lk F10, lk F11, lk F12, F13, F14, F15, F16, F17, F18, F19⟩
    · simp only [List.getElem?_toArray, List.getElem?_cons_zero, List.getElem?_cons_succ, Option.some.injEq] at ho
      subst ho
      obtain rfl := F5 (hd ⟨5, .guard⟩ (by simp) rfl)
      have h0 := F14; have h1 := F15; have h2 := F16
      refine wpOp_step rfl (fun K hK => ?_)
      go_simp
      refine hK _ _ ?_
      exact ⟨_, _, _, _, _, _, _, _, _, _, _, _, _, rfl, lk F0, lk F1, lk F2, lk F3, lk F4, lk F5, fun _ => rfl, lk F7, lk F8, lk F9, lk F10, lk F11, lk F12, F13, F14, F15, F16, F17, F18, F19⟩
    · simp only [List.getElem?_toArray, List.getElem?_cons_zero, List.getElem?_cons_succ, Option.some.injEq] at ho
      subst ho
      obtain rfl := F6 (hd ⟨6, .data⟩ (by simp) rfl)
      obtain rfl := F5 (hd ⟨5, .guard⟩ (by simp) rfl)
      refine wpOp_step rfl (fun K hK => ?_)
      go_simp
      go_at_call 41
      refine (H4.out _ F13).mono ?_
      rintro e w' ⟨rfl, hb⟩
      refine hK _ _ ?_
      exact ⟨_, _, _, _, _, _, _, _, _, _, _, _, _, rfl, lk F0, lk F1, lk F2, lk F3, lk F4, lk F5, lk F6, fun _ => rfl, lk F8, lk F9, lk F10, lk F11, lk F12, bt F13 hb, cell_call F14 hb, cell_call F15 hb, cell_call F16 hb, cell_call F17 hb, cell_call F18 hb, cell_call F19 hb⟩
    · simp only [List.getElem?_toArray, List.getElem?_cons_zero, List.getElem?_cons_succ, Option.some.injEq] at ho
      subst ho
      obtain rfl := F5 (hd ⟨5, .guard⟩ (by simp) rfl)
      have h0 := F17; have h1 := F18; have h2 := F19
      refine wpOp_step rfl (fun K hK => ?_)
      go_simp
      refine hK _ _ ?_
      exact ⟨_, _, _, _, _, _, _, _, _, _, _, _, _, rfl, lk F0, lk F1, lk F2, lk F3, lk F4, lk F5, lk F6, lk F7, fun _ => rfl, lk F9, lk F10, lk F11, lk F12, F13, F14, F15, F16, F17, F18, F19⟩
    · simp only [List.getElem?_toArray, List.getElem?_cons_zero, List.getElem?_cons_succ, Option.some.injEq] at ho
      subst ho
      obtain rfl := F8 (hd ⟨8, .data⟩ (by simp) rfl)
      obtain rfl := F5 (hd ⟨5, .guard⟩ (by simp) rfl)
      refine wpOp_step rfl (fun K hK => ?_)
      go_simp
      go_at_call 41
      refine (H5.out _ F13).mono ?_
      rintro e w' ⟨rfl, hb⟩
      refine hK _ _ ?_
      exact ⟨_, _, _, _, _, _, _, _, _, _, _, _, _, rfl, lk F0, lk F1, lk F2, lk F3, lk F4, lk F5, lk F6, lk F7, lk F8, fun _ => rfl, lk F10, lk F11, lk F12, bt F13 hb, cell_call F14 hb, cell_call F15 hb, cell_call F16 hb, cell_call F17 hb, cell_call F18 hb, cell_call F19 hb⟩
    · simp only [List.getElem?_toArray, List.getElem?_cons_zero, List.getElem?_cons_succ, Option.some.injEq] at ho
      subst ho
      obtain rfl := F7 (hd ⟨7, .data⟩ (by simp) rfl)
      obtain rfl := F9 (hd ⟨9, .data⟩ (by simp) rfl)
      obtain rfl := F5 (hd ⟨5, .guard⟩ (by simp) rfl)
      refine wpOp_step rfl (fun K hK => ?_)
      go_simp
      go_at_call 42
      refine (H6.out _ F13).mono ?_
      rintro e w' ⟨rfl, hb⟩
      refine hK _ _ ?_
      exact ⟨_, _, _, _, _, _, _, _, _, _, _, _, _, rfl, lk F0, lk F1, lk F2, lk F3, lk F4, lk F5, lk F6, lk F7, lk F8, lk F9, fun _ => rfl, lk F11, lk F12, bt F13 hb, cell_call F14 hb, cell_call F15 hb, cell_call F16 hb, cell_call F17 hb, cell_call F18 hb, cell_call F19 hb⟩
    · simp only [List.getElem?_toArray, List.getElem?_cons_zero, List.getElem?_cons_succ, Option.some.injEq] at ho
      subst ho
      obtain rfl := F5 (hd ⟨5, .data⟩ (by simp) rfl)
      obtain rfl := F10 (hd ⟨10, .data⟩ (by simp) rfl)
      refine wpOp_step rfl (fun K hK => ?_)
      go_simp
      refine hK _ _ ?_
      exact ⟨_, _, _, _, _, _, _, _, _, _, _, _, _, rfl, lk F0, lk F1, lk F2, lk F3, lk F4, lk F5, lk F6, lk F7, lk F8, lk F9, lk F10, fun _ => rfl, lk F12, F13, F14, F15, F16, F17, F18, F19⟩
    · simp only [List.getElem?_toArray, List.getElem?_cons_zero, List.getElem?_cons_succ, Option.some.injEq] at ho
      subst ho
      obtain rfl := F11 (hd ⟨11, .data⟩ (by simp) rfl)
      refine wpOp_step rfl (fun K hK => ?_)
      go_simp
      refine hK _ _ ?_
      exact ⟨_, _, _, _, _, _, _, _, _, _, _, _, _, rfl, lk F0, lk F1, lk F2, lk F3, lk F4, lk F5, lk F6, lk F7, lk F8, lk F9, lk F10, lk F11, fun _ => rfl, F13, F14, F15, F16, F17, F18, F19⟩
  · intro listed A w hall hI
    unfold SaI at hI
    obtain ⟨s4, hI⟩ := hI
    obtain ⟨s5, hI⟩ := hI
    obtain ⟨s6, hI⟩ := hI
    obtain ⟨s7, hI⟩ := hI
    obtain ⟨s8, hI⟩ := hI
    obtain ⟨s9, hI⟩ := hI
    obtain ⟨s10, hI⟩ := hI
    obtain ⟨s11, hI⟩ := hI
    obtain ⟨s12, hI⟩ := hI
    obtain ⟨s13, hI⟩ := hI
    obtain ⟨s14, hI⟩ := hI
    obtain ⟨s15, hI⟩ := hI
    obtain ⟨s16, hI⟩ := hI
    obtain ⟨rfl, hI⟩ := hI
    obtain ⟨F0, hI⟩ := hI
    obtain ⟨F1, hI⟩ := hI
    obtain ⟨F2, hI⟩ := hI
    obtain ⟨F3, hI⟩ := hI
    obtain ⟨F4, hI⟩ := hI
    obtain ⟨F5, hI⟩ := hI
    obtain ⟨F6, hI⟩ := hI
    obtain ⟨F7, hI⟩ := hI
    obtain ⟨F8, hI⟩ := hI
    obtain ⟨F9, hI⟩ := hI
    obtain ⟨F10, hI⟩ := hI
    obtain ⟨F11, hI⟩ := hI
    obtain ⟨F12, hI⟩ := hI
    obtain ⟨F13, hI⟩ := hI
    obtain ⟨F14, hI⟩ := hI
    obtain ⟨F15, hI⟩ := hI
    obtain ⟨F16, hI⟩ := hI
    obtain ⟨F17, hI⟩ := hI
    obtain ⟨F18, hI⟩ := hI
    have F19 := hI; clear hI
    obtain rfl := F0 (hall 0 (by decide))
    obtain rfl := F1 (hall 1 (by decide))
    obtain rfl := F2 (hall 2 (by decide))
    obtain rfl := F3 (hall 3 (by decide))
    obtain rfl := F4 (hall 4 (by decide))
    obtain rfl := F5 (hall 5 (by decide))
    obtain rfl := F6 (hall 6 (by decide))
    obtain rfl := F7 (hall 7 (by decide))
    obtain rfl := F8 (hall 8 (by decide))
    obtain rfl := F9 (hall 9 (by decide))
    obtain rfl := F10 (hall 10 (by decide))
    obtain rfl := F11 (hall 11 (by decide))
    obtain rfl := F12 (hall 12 (by decide))
    have HB := F13
    have Q0 := F14
    have Q1 := F15
    have Q2 := F16
    have Q3 := F17
    have Q4 := F18
    have Q5 := F19
    exact hQ _ trivial HB
def SbI (w0 : World) (ga gb ai ao bi bo a0 a1 b0 b1 : Nat) (an bn : ByteArray) (_r : Bool) (c0 c1 : Value) (listed : Array Bool) (A : Act) (w : World) : Prop := ∃ (s4 s5 s6 s7 s8 s9 s10 s11 s12 s13 s14 s15 s16 : Value), A = { tmps := #[c0, c1, .pointer (some ⟨ga, 0, none⟩), .pointer (some ⟨gb, 0, none⟩), s4, s5, s6, s7, s8, s9, s10, s11, s12, s13, s14, s15, s16], defers := [] } ∧
  (listed.getD 0 false = true → s5 = .agg #[.int .i64 (ai : Nat), .string an, .int .i64 (ao : Nat)]) ∧
  (listed.getD 1 false = true → s6 = .agg #[.int .i64 (a0 : Nat), .int .i64 (a1 : Nat)]) ∧
  (listed.getD 2 false = true → s7 = .agg #[.int .i64 (bi : Nat), .string bn, .int .i64 (bo : Nat)]) ∧
  (listed.getD 3 false = true → s8 = .agg #[.int .i64 (b0 : Nat), .int .i64 (b1 : Nat)]) ∧
  (listed.getD 4 false = true → s9 = .bool false) ∧
  (listed.getD 5 false = true → s10 = .bool false) ∧
  (listed.getD 6 false = true → s11 = undef) ∧
  (listed.getD 7 false = true → s12 = undef) ∧
  (listed.getD 8 false = true → s13 = undef) ∧
  (listed.getD 9 false = true → s14 = undef) ∧
  (listed.getD 10 false = true → s15 = undef) ∧
  (listed.getD 11 false = true → s16 = .bool false) ∧
  (listed.getD 12 false = true → s4 = .bool false) ∧
  Below w0.heap.size w0 w ∧
  w.cell? ⟨ga, 0, none⟩ = some (.int .i64 (ai : Nat)) ∧
  w.cell? ⟨ga, 1, none⟩ = some (.string an) ∧
  w.cell? ⟨ga, 2, none⟩ = some (.int .i64 (ao : Nat)) ∧
  w.cell? ⟨gb, 0, none⟩ = some (.int .i64 (bi : Nat)) ∧
  w.cell? ⟨gb, 1, none⟩ = some (.string bn) ∧
  w.cell? ⟨gb, 2, none⟩ = some (.int .i64 (bo : Nat))
set_option maxRecDepth 100000 in
set_option maxHeartbeats 16000000 in
theorem Sb_region (ga gb ai ao bi bo a0 a1 b0 b1 : Nat) (an bn : ByteArray) (r : Bool) {x4 x5 x6 x7 x8 x9 x10 x11 x12 x13 x14 x15 x16 : Value} {c0 c1 : Value} (w0 : World) {W : World} {Q : Exit → Act → World → Prop} (hb0 : Below w0.heap.size w0 W) (C0 : W.cell? ⟨ga, 0, none⟩ = some (.int .i64 (ai : Nat))) (C1 : W.cell? ⟨ga, 1, none⟩ = some (.string an)) (C2 : W.cell? ⟨ga, 2, none⟩ = some (.int .i64 (ao : Nat))) (C3 : W.cell? ⟨gb, 0, none⟩ = some (.int .i64 (bi : Nat))) (C4 : W.cell? ⟨gb, 1, none⟩ = some (.string bn)) (C5 : W.cell? ⟨gb, 2, none⟩ = some (.int .i64 (bo : Nat))) (H1 : Hid (∀ w1, Below w0.heap.size w0 w1 → Calls Tryd.prog 36 #[.agg #[.int .i64 (ai : Nat), .string an, .int .i64 (ao : Nat)]] w1 fun e w' => e = .returned (.agg #[.int .i64 (a0 : Nat), .int .i64 (a1 : Nat)]) ∧ Below w1.heap.size w1 w')) (H2 : Hid (∀ w1, Below w0.heap.size w0 w1 → Calls Tryd.prog 36 #[.agg #[.int .i64 (bi : Nat), .string bn, .int .i64 (bo : Nat)]] w1 fun e w' => e = .returned (.agg #[.int .i64 (b0 : Nat), .int .i64 (b1 : Nat)]) ∧ Below w1.heap.size w1 w')) (H3 : Hid (∀ w1, Below w0.heap.size w0 w1 → Calls Tryd.prog 35 #[.agg #[.int .i64 (a0 : Nat), .int .i64 (a1 : Nat)], .agg #[.int .i64 (b0 : Nat), .int .i64 (b1 : Nat)]] w1 fun e w' => e = .returned (.bool false) ∧ Below w1.heap.size w1 w'))
    (hQ : ∀ (w : World) , (True) → Below w0.heap.size w0 w → Q .normal { tmps := #[c0, c1, .pointer (some ⟨ga, 0, none⟩), .pointer (some ⟨gb, 0, none⟩), .bool false, .agg #[.int .i64 (ai : Nat), .string an, .int .i64 (ao : Nat)], .agg #[.int .i64 (a0 : Nat), .int .i64 (a1 : Nat)], .agg #[.int .i64 (bi : Nat), .string bn, .int .i64 (bo : Nat)], .agg #[.int .i64 (b0 : Nat), .int .i64 (b1 : Nat)], .bool false, .bool false, undef, undef, undef, undef, undef, .bool false], defers := [] } w) :
    Code.wp Tryd.prog ((Tryd.f22.body.bind (regionOf 1)).getD .skip) Q { tmps := #[c0, c1, .pointer (some ⟨ga, 0, none⟩), .pointer (some ⟨gb, 0, none⟩), x4, x5, x6, x7, x8, x9, x10, x11, x12, x13, x14, x15, x16], defers := [] } W := by
  conv => arg 2; whnf
  refine wp_region_inv (by kernel_rfl) (by kernel_rfl) (SbI w0 ga gb ai ao bi bo a0 a1 b0 b1 an bn r c0 c1) ?_ ?_ ?_
  · exact ⟨_, _, _, _, _, _, _, _, _, _, _, _, _, rfl, fun h => absurd h l0, fun h => absurd h l0, fun h => absurd h l0, fun h => absurd h l0, fun h => absurd h l0, fun h => absurd h l0, fun h => absurd h l0, fun h => absurd h l0, fun h => absurd h l0, fun h => absurd h l0, fun h => absurd h l0, fun h => absurd h l0, fun h => absurd h l0, bdr hb0, C0, C1, C2, C3, C4, C5⟩
  · intro i o listed A w hi ho hd hn hI
    unfold SbI at hI
    obtain ⟨s4, hI⟩ := hI
    obtain ⟨s5, hI⟩ := hI
    obtain ⟨s6, hI⟩ := hI
    obtain ⟨s7, hI⟩ := hI
    obtain ⟨s8, hI⟩ := hI
    obtain ⟨s9, hI⟩ := hI
    obtain ⟨s10, hI⟩ := hI
    obtain ⟨s11, hI⟩ := hI
    obtain ⟨s12, hI⟩ := hI
    obtain ⟨s13, hI⟩ := hI
    obtain ⟨s14, hI⟩ := hI
    obtain ⟨s15, hI⟩ := hI
    obtain ⟨s16, hI⟩ := hI
    obtain ⟨rfl, hI⟩ := hI
    obtain ⟨F0, hI⟩ := hI
    obtain ⟨F1, hI⟩ := hI
    obtain ⟨F2, hI⟩ := hI
    obtain ⟨F3, hI⟩ := hI
    obtain ⟨F4, hI⟩ := hI
    obtain ⟨F5, hI⟩ := hI
    obtain ⟨F6, hI⟩ := hI
    obtain ⟨F7, hI⟩ := hI
    obtain ⟨F8, hI⟩ := hI
    obtain ⟨F9, hI⟩ := hI
    obtain ⟨F10, hI⟩ := hI
    obtain ⟨F11, hI⟩ := hI
    obtain ⟨F12, hI⟩ := hI
    obtain ⟨F13, hI⟩ := hI
    obtain ⟨F14, hI⟩ := hI
    obtain ⟨F15, hI⟩ := hI
    obtain ⟨F16, hI⟩ := hI
    obtain ⟨F17, hI⟩ := hI
    obtain ⟨F18, hI⟩ := hI
    have F19 := hI; clear hI
    have hi' : i < 13 := hi
    clear hi
    rcases (by omega : i = 0 ∨ i = 1 ∨ i = 2 ∨ i = 3 ∨ i = 4 ∨ i = 5 ∨ i = 6 ∨ i = 7 ∨ i = 8 ∨ i = 9 ∨ i = 10 ∨ i = 11 ∨ i = 12) with rfl | rfl | rfl | rfl | rfl | rfl | rfl | rfl | rfl | rfl | rfl | rfl | rfl
    · simp only [List.getElem?_toArray, List.getElem?_cons_zero, Option.some.injEq] at ho
      subst ho
      have h0 := F14; have h1 := F15; have h2 := F16
      refine wpOp_step rfl (fun K hK => ?_)
      go_simp
      refine hK _ _ ?_
      exact ⟨_, _, _, _, _, _, _, _, _, _, _, _, _, rfl, fun _ => rfl, lk F1, lk F2, lk F3, lk F4, lk F5, lk F6, lk F7, lk F8, lk F9, lk F10, lk F11, lk F12, F13, F14, F15, F16, F17, F18, F19⟩
    · simp only [List.getElem?_toArray, List.getElem?_cons_zero, List.getElem?_cons_succ, Option.some.injEq] at ho
      subst ho
      obtain rfl := F0 (hd ⟨0, .data⟩ (by simp) rfl)
      refine wpOp_step rfl (fun K hK => ?_)
      go_simp
      go_at_call 36
      refine (H1.out _ F13).mono ?_
      rintro e w' ⟨rfl, hb⟩
      refine hK _ _ ?_
      exact ⟨_, _, _, _, _, _, _, _, _, _, _, _, _, rfl, lk F0, fun _ => rfl, lk F2, lk F3, lk F4, lk F5, lk F6, lk F7, lk F8, lk F9, lk F10, lk F11, lk F12, bt F13 hb, cell_call F14 hb, cell_call F15 hb, cell_call F16 hb, cell_call F17 hb, cell_call F18 hb, cell_call F19 hb⟩
    · simp only [List.getElem?_toArray, List.getElem?_cons_zero, List.getElem?_cons_succ, Option.some.injEq] at ho
      subst ho
      have h0 := F17; have h1 := F18; have h2 := F19
      refine wpOp_step rfl (fun K hK => ?_)
      go_simp
      refine hK _ _ ?_
      exact ⟨_, _, _, _, _, _, _, _, _, _, _, _, _, rfl, lk F0, lk F1, fun _ => rfl, lk F3, lk F4, lk F5, lk F6, lk F7, lk F8, lk F9, lk F10, lk F11, lk F12, F13, F14, F15, F16, F17, F18, F19⟩
    · simp only [List.getElem?_toArray, List.getElem?_cons_zero, List.getElem?_cons_succ, Option.some.injEq] at ho
      subst ho
      obtain rfl := F2 (hd ⟨2, .data⟩ (by simp) rfl)
      refine wpOp_step rfl (fun K hK => ?_)
      go_simp
      go_at_call 36
      refine (H2.out _ F13).mono ?_
      rintro e w' ⟨rfl, hb⟩
      refine hK _ _ ?_
      exact ⟨_, _, _, _, _, _, _, _, _, _, _, _, _, rfl, lk F0, lk F1, lk F2, fun _ => rfl, lk F4, lk F5, lk F6, lk F7, lk F8, lk F9, lk F10, lk F11, lk F12, bt F13 hb, cell_call F14 hb, cell_call F15 hb, cell_call F16 hb, cell_call F17 hb, cell_call F18 hb, cell_call F19 hb⟩
    · simp only [List.getElem?_toArray, List.getElem?_cons_zero, List.getElem?_cons_succ, Option.some.injEq] at ho
      subst ho
      obtain rfl := F1 (hd ⟨1, .data⟩ (by simp) rfl)
      obtain rfl := F3 (hd ⟨3, .data⟩ (by simp) rfl)
      refine wpOp_step rfl (fun K hK => ?_)
      go_simp
      go_at_call 35
      refine (H3.out _ F13).mono ?_
      rintro e w' ⟨rfl, hb⟩
      refine hK _ _ ?_
      exact ⟨_, _, _, _, _, _, _, _, _, _, _, _, _, rfl, lk F0, lk F1, lk F2, lk F3, fun _ => rfl, lk F5, lk F6, lk F7, lk F8, lk F9, lk F10, lk F11, lk F12, bt F13 hb, cell_call F14 hb, cell_call F15 hb, cell_call F16 hb, cell_call F17 hb, cell_call F18 hb, cell_call F19 hb⟩
    · simp only [List.getElem?_toArray, List.getElem?_cons_zero, List.getElem?_cons_succ, Option.some.injEq] at ho
      subst ho
      obtain rfl := F4 (hd ⟨4, .data⟩ (by simp) rfl)
      refine wpOp_step rfl (fun K hK => ?_)
      go_simp
      refine hK _ _ ?_
      exact ⟨_, _, _, _, _, _, _, _, _, _, _, _, _, rfl, lk F0, lk F1, lk F2, lk F3, lk F4, fun _ => rfl, lk F6, lk F7, lk F8, lk F9, lk F10, lk F11, lk F12, F13, F14, F15, F16, F17, F18, F19⟩
    · simp only [List.getElem?_toArray, List.getElem?_cons_zero, List.getElem?_cons_succ, Option.some.injEq] at ho
      subst ho
      obtain rfl := F5 (hd ⟨5, .guard⟩ (by simp) rfl)
      refine wpOp_step rfl (fun K hK => ?_)
      go_simp
      refine hK _ _ ?_
      exact ⟨_, _, _, _, _, _, _, _, _, _, _, _, _, rfl, lk F0, lk F1, lk F2, lk F3, lk F4, lk F5, fun _ => rfl, lk F7, lk F8, lk F9, lk F10, lk F11, lk F12, F13, F14, F15, F16, F17, F18, F19⟩
    · simp only [List.getElem?_toArray, List.getElem?_cons_zero, List.getElem?_cons_succ, Option.some.injEq] at ho
      subst ho
      obtain rfl := F5 (hd ⟨5, .guard⟩ (by simp) rfl)
      refine wpOp_step rfl (fun K hK => ?_)
      go_simp
      refine hK _ _ ?_
      exact ⟨_, _, _, _, _, _, _, _, _, _, _, _, _, rfl, lk F0, lk F1, lk F2, lk F3, lk F4, lk F5, lk F6, fun _ => rfl, lk F8, lk F9, lk F10, lk F11, lk F12, F13, F14, F15, F16, F17, F18, F19⟩
    · simp only [List.getElem?_toArray, List.getElem?_cons_zero, List.getElem?_cons_succ, Option.some.injEq] at ho
      subst ho
      obtain rfl := F5 (hd ⟨5, .guard⟩ (by simp) rfl)
      refine wpOp_step rfl (fun K hK => ?_)
      go_simp
      refine hK _ _ ?_
      exact ⟨_, _, _, _, _, _, _, _, _, _, _, _, _, rfl, lk F0, lk F1, lk F2, lk F3, lk F4, lk F5, lk F6, lk F7, fun _ => rfl, lk F9, lk F10, lk F11, lk F12, F13, F14, F15, F16, F17, F18, F19⟩
    · simp only [List.getElem?_toArray, List.getElem?_cons_zero, List.getElem?_cons_succ, Option.some.injEq] at ho
      subst ho
      obtain rfl := F5 (hd ⟨5, .guard⟩ (by simp) rfl)
      refine wpOp_step rfl (fun K hK => ?_)
      go_simp
      refine hK _ _ ?_
      exact ⟨_, _, _, _, _, _, _, _, _, _, _, _, _, rfl, lk F0, lk F1, lk F2, lk F3, lk F4, lk F5, lk F6, lk F7, lk F8, fun _ => rfl, lk F10, lk F11, lk F12, F13, F14, F15, F16, F17, F18, F19⟩
    · simp only [List.getElem?_toArray, List.getElem?_cons_zero, List.getElem?_cons_succ, Option.some.injEq] at ho
      subst ho
      obtain rfl := F5 (hd ⟨5, .guard⟩ (by simp) rfl)
      refine wpOp_step rfl (fun K hK => ?_)
      go_simp
      refine hK _ _ ?_
      exact ⟨_, _, _, _, _, _, _, _, _, _, _, _, _, rfl, lk F0, lk F1, lk F2, lk F3, lk F4, lk F5, lk F6, lk F7, lk F8, lk F9, fun _ => rfl, lk F11, lk F12, F13, F14, F15, F16, F17, F18, F19⟩
    · simp only [List.getElem?_toArray, List.getElem?_cons_zero, List.getElem?_cons_succ, Option.some.injEq] at ho
      subst ho
      obtain rfl := F5 (hd ⟨5, .data⟩ (by simp) rfl)
      refine wpOp_step rfl (fun K hK => ?_)
      go_simp
      refine hK _ _ ?_
      exact ⟨_, _, _, _, _, _, _, _, _, _, _, _, _, rfl, lk F0, lk F1, lk F2, lk F3, lk F4, lk F5, lk F6, lk F7, lk F8, lk F9, lk F10, fun _ => rfl, lk F12, F13, F14, F15, F16, F17, F18, F19⟩
    · simp only [List.getElem?_toArray, List.getElem?_cons_zero, List.getElem?_cons_succ, Option.some.injEq] at ho
      subst ho
      obtain rfl := F11 (hd ⟨11, .data⟩ (by simp) rfl)
      refine wpOp_step rfl (fun K hK => ?_)
      go_simp
      refine hK _ _ ?_
      exact ⟨_, _, _, _, _, _, _, _, _, _, _, _, _, rfl, lk F0, lk F1, lk F2, lk F3, lk F4, lk F5, lk F6, lk F7, lk F8, lk F9, lk F10, lk F11, fun _ => rfl, F13, F14, F15, F16, F17, F18, F19⟩
  · intro listed A w hall hI
    unfold SbI at hI
    obtain ⟨s4, hI⟩ := hI
    obtain ⟨s5, hI⟩ := hI
    obtain ⟨s6, hI⟩ := hI
    obtain ⟨s7, hI⟩ := hI
    obtain ⟨s8, hI⟩ := hI
    obtain ⟨s9, hI⟩ := hI
    obtain ⟨s10, hI⟩ := hI
    obtain ⟨s11, hI⟩ := hI
    obtain ⟨s12, hI⟩ := hI
    obtain ⟨s13, hI⟩ := hI
    obtain ⟨s14, hI⟩ := hI
    obtain ⟨s15, hI⟩ := hI
    obtain ⟨s16, hI⟩ := hI
    obtain ⟨rfl, hI⟩ := hI
    obtain ⟨F0, hI⟩ := hI
    obtain ⟨F1, hI⟩ := hI
    obtain ⟨F2, hI⟩ := hI
    obtain ⟨F3, hI⟩ := hI
    obtain ⟨F4, hI⟩ := hI
    obtain ⟨F5, hI⟩ := hI
    obtain ⟨F6, hI⟩ := hI
    obtain ⟨F7, hI⟩ := hI
    obtain ⟨F8, hI⟩ := hI
    obtain ⟨F9, hI⟩ := hI
    obtain ⟨F10, hI⟩ := hI
    obtain ⟨F11, hI⟩ := hI
    obtain ⟨F12, hI⟩ := hI
    obtain ⟨F13, hI⟩ := hI
    obtain ⟨F14, hI⟩ := hI
    obtain ⟨F15, hI⟩ := hI
    obtain ⟨F16, hI⟩ := hI
    obtain ⟨F17, hI⟩ := hI
    obtain ⟨F18, hI⟩ := hI
    have F19 := hI; clear hI
    obtain rfl := F0 (hall 0 (by decide))
    obtain rfl := F1 (hall 1 (by decide))
    obtain rfl := F2 (hall 2 (by decide))
    obtain rfl := F3 (hall 3 (by decide))
    obtain rfl := F4 (hall 4 (by decide))
    obtain rfl := F5 (hall 5 (by decide))
    obtain rfl := F6 (hall 6 (by decide))
    obtain rfl := F7 (hall 7 (by decide))
    obtain rfl := F8 (hall 8 (by decide))
    obtain rfl := F9 (hall 9 (by decide))
    obtain rfl := F10 (hall 10 (by decide))
    obtain rfl := F11 (hall 11 (by decide))
    obtain rfl := F12 (hall 12 (by decide))
    have HB := F13
    have Q0 := F14
    have Q1 := F15
    have Q2 := F16
    have Q3 := F17
    have Q4 := F18
    have Q5 := F19
    exact hQ _ trivial HB
end Go.Proofs.YtjpopmgnhgancaaDoor
