/- Items in a row; a kind of a node, of a value; Match. No condition beyond what the theorems state. -/
import Derived.Test.YtjpopmgnhgancaaDoorRegEven
import Derived.Test.YtjpopmgnhgancaaDoorWords
namespace Go.Proofs.YtjpopmgnhgancaaDoor
open Go.RowKit Go.Lib
set_option maxRecDepth 100000
set_option maxHeartbeats 8000000
/-- The least kinds of nodes and of values, as the program's tables hold them. -/
def ofNode : Nat → Nat
  | 0 => 13 | 1 => 7 | 2 => 8 | 3 => 9 | 4 => 10 | _ => 11
def TK2 (w : World) : Prop := (∀ j, j < 6 → w.cell? ⟨0, j, none⟩ = some (.int .i64 (ofNode j : Nat))) ∧ (∀ j, j < 6 → w.cell? ⟨1, j, none⟩ = some (.int .i64 (j : Nat)))
theorem TK2.below {w w' : World} (h : TK2 w) (hb : Below w.heap.size w w') : TK2 w' := ⟨fun j hj => cell_call (h.1 j hj) hb, fun j hj => cell_call (h.2 j hj) hb⟩
def KdI (w0 : World) (sb gx gr q ko : Nat) (m : Int) (nm : ByteArray) (c1 c2 c5 c6 c7 c8 c20 c21 c22 c23 c24 c25 c26 c27 c28 c29 c30 c31 c32 c33 : Value) (listed : Array Bool) (A : Act) (w : World) : Prop := ∃ (s9 s10 s11 s12 s13 s14 s15 s16 s17 s18 s19 : Value), A = { tmps := #[.pointer (some ⟨sb, 0, none⟩), c1, c2, .pointer (some ⟨gx, 0, none⟩), .pointer (some ⟨gr, 0, none⟩), c5, c6, c7, c8, s9, s10, s11, s12, s13, s14, s15, s16, s17, s18, s19, c20, c21, c22, c23, c24, c25, c26, c27, c28, c29, c30, c31, c32, c33], defers := [] } ∧
  (listed.getD 0 false = true → s9 = .pointer (some ⟨sb, 0, none⟩)) ∧
  (listed.getD 1 false = true → s10 = .pointer (some ⟨gx, 0, none⟩)) ∧
  (listed.getD 2 false = true → s11 = .int .i64 m) ∧
  (listed.getD 3 false = true → s12 = .int .i64 (q : Nat)) ∧
  (listed.getD 4 false = true → s13 = .pointer (some ⟨0, q, none⟩)) ∧
  (listed.getD 5 false = true → s14 = .int .i64 (ko : Nat)) ∧
  (listed.getD 6 false = true → s15 = .pointer (some ⟨sb, 0, none⟩)) ∧
  (listed.getD 7 false = true → s16 = .pointer (some ⟨gx, 0, none⟩)) ∧
  (listed.getD 8 false = true → s17 = .int .i64 m) ∧
  (listed.getD 9 false = true → s18 = .string nm) ∧
  (listed.getD 10 false = true → s19 = .agg #[.int .i64 (ko : Nat), .string nm, .int .i64 0]) ∧
  (listed.getD 11 false = true → (w.cell? ⟨gr, 0, none⟩ = some (.int .i64 (ko : Nat)) ∧ w.cell? ⟨gr, 1, none⟩ = some (.string nm) ∧ w.cell? ⟨gr, 2, none⟩ = some (.int .i64 0))) ∧
  Below w0.heap.size w0 w ∧
  w.cell? ⟨gx, 0, none⟩ = some (.int .i64 m) ∧
  w.cell? ⟨0, q, none⟩ = some (.int .i64 (ko : Nat)) ∧
  (listed.getD 11 false = false → w.cell? ⟨gr, 0, none⟩ = some (.int .i64 0)) ∧
  (listed.getD 11 false = false → w.cell? ⟨gr, 1, none⟩ = some (.string ⟨#[]⟩)) ∧
  (listed.getD 11 false = false → w.cell? ⟨gr, 2, none⟩ = some (.int .i64 0)) ∧
  w.frozen? ⟨gr, 0, none⟩ = false ∧
  w.frozen? ⟨gr, 1, none⟩ = false ∧
  w.frozen? ⟨gr, 2, none⟩ = false ∧
  gr < w.heap.size
set_option maxRecDepth 100000 in
set_option maxHeartbeats 16000000 in
theorem Kd_region (sb gx gr q ko : Nat) (m : Int) (nm : ByteArray) {x9 x10 x11 x12 x13 x14 x15 x16 x17 x18 x19 : Value} {c1 c2 c5 c6 c7 c8 c20 c21 c22 c23 c24 c25 c26 c27 c28 c29 c30 c31 c32 c33 : Value} (w0 : World) {W : World} {Q : Exit → Act → World → Prop} (hb0 : Below w0.heap.size w0 W) (C0 : W.cell? ⟨gx, 0, none⟩ = some (.int .i64 m)) (C1 : W.cell? ⟨0, q, none⟩ = some (.int .i64 (ko : Nat))) (C2 : W.cell? ⟨gr, 0, none⟩ = some (.int .i64 0)) (C3 : W.cell? ⟨gr, 1, none⟩ = some (.string ⟨#[]⟩)) (C4 : W.cell? ⟨gr, 2, none⟩ = some (.int .i64 0)) (C5 : W.frozen? ⟨gr, 0, none⟩ = false) (C6 : W.frozen? ⟨gr, 1, none⟩ = false) (C7 : W.frozen? ⟨gr, 2, none⟩ = false) (C8 : gr < W.heap.size)  (H1 : Hid (∀ w1, Below w0.heap.size w0 w1 → Calls Tryd.prog 39 #[.pointer (some ⟨sb, 0, none⟩), .int .i64 m] w1 fun e w' => e = .returned (.int .i64 (q : Nat)) ∧ Below w1.heap.size w1 w')) (H2 : Hid (∀ w1, Below w0.heap.size w0 w1 → Calls Tryd.prog 40 #[.pointer (some ⟨sb, 0, none⟩), .int .i64 m] w1 fun e w' => e = .returned (.string nm) ∧ Below w1.heap.size w1 w')) (_hq : q < 6) (hq2 : ((q : Int) < 6) = True) (p_gr : w0.heap.size ≤ gr) (n_gx_gr : gx ≠ gr) (n_0_gr : 0 ≠ gr)
    (hQ : ∀ (w : World) , (w.cell? ⟨gr, 0, none⟩ = some (.int .i64 (ko : Nat)) ∧ w.cell? ⟨gr, 1, none⟩ = some (.string nm) ∧ w.cell? ⟨gr, 2, none⟩ = some (.int .i64 0) ∧ gr < w.heap.size ∧ w.frozen? ⟨gr, 0, none⟩ = false ∧ w.frozen? ⟨gr, 1, none⟩ = false ∧ w.frozen? ⟨gr, 2, none⟩ = false) → Below w0.heap.size w0 w → Q .normal { tmps := #[.pointer (some ⟨sb, 0, none⟩), c1, c2, .pointer (some ⟨gx, 0, none⟩), .pointer (some ⟨gr, 0, none⟩), c5, c6, c7, c8, .pointer (some ⟨sb, 0, none⟩), .pointer (some ⟨gx, 0, none⟩), .int .i64 m, .int .i64 (q : Nat), .pointer (some ⟨0, q, none⟩), .int .i64 (ko : Nat), .pointer (some ⟨sb, 0, none⟩), .pointer (some ⟨gx, 0, none⟩), .int .i64 m, .string nm, .agg #[.int .i64 (ko : Nat), .string nm, .int .i64 0], c20, c21, c22, c23, c24, c25, c26, c27, c28, c29, c30, c31, c32, c33], defers := [] } w) :
    Code.wp Tryd.prog ((Tryd.f16.body.bind (regionOf 2)).getD .skip) Q { tmps := #[.pointer (some ⟨sb, 0, none⟩), c1, c2, .pointer (some ⟨gx, 0, none⟩), .pointer (some ⟨gr, 0, none⟩), c5, c6, c7, c8, x9, x10, x11, x12, x13, x14, x15, x16, x17, x18, x19, c20, c21, c22, c23, c24, c25, c26, c27, c28, c29, c30, c31, c32, c33], defers := [] } W := by
  conv => arg 2; whnf
  refine wp_region_inv (by kernel_rfl) (by kernel_rfl) (KdI w0 sb gx gr q ko m nm c1 c2 c5 c6 c7 c8 c20 c21 c22 c23 c24 c25 c26 c27 c28 c29 c30 c31 c32 c33) ?_ ?_ ?_
  · exact ⟨_, _, _, _, _, _, _, _, _, _, _, rfl, fun h => absurd h l0, fun h => absurd h l0, fun h => absurd h l0, fun h => absurd h l0, fun h => absurd h l0, fun h => absurd h l0, fun h => absurd h l0, fun h => absurd h l0, fun h => absurd h l0, fun h => absurd h l0, fun h => absurd h l0, fun h => absurd h l0, bdr hb0, C0, C1, fun _ => C2, fun _ => C3, fun _ => C4, C5, C6, C7, C8⟩
  · intro i o listed A w hi ho hd hn hI
    unfold KdI at hI
    obtain ⟨s9, hI⟩ := hI
    obtain ⟨s10, hI⟩ := hI
    obtain ⟨s11, hI⟩ := hI
    obtain ⟨s12, hI⟩ := hI
    obtain ⟨s13, hI⟩ := hI
    obtain ⟨s14, hI⟩ := hI
    obtain ⟨s15, hI⟩ := hI
    obtain ⟨s16, hI⟩ := hI
    obtain ⟨s17, hI⟩ := hI
    obtain ⟨s18, hI⟩ := hI
    obtain ⟨s19, hI⟩ := hI
    obtain ⟨rfl, hI⟩ := hI
    obtain ⟨F0, hI⟩ := hI
    obtain ⟨F1, hI⟩ := hI
    obtain ⟨F2, hI⟩ := hI
    obtain ⟨F3, hI⟩ := hI
    obtain ⟨F4, hI⟩ := hI
    obtain ⟨F5, hI⟩ := hI
    obtain ⟨F6, hI⟩ := hI
    obtain ⟨F7, hI⟩ := hI
    obtain ⟨F8, hI⟩ := hI
    obtain ⟨F9, hI⟩ := hI
    obtain ⟨F10, hI⟩ := hI
    obtain ⟨F11, hI⟩ := hI
    obtain ⟨F12, hI⟩ := hI
    obtain ⟨F13, hI⟩ := hI
    obtain ⟨F14, hI⟩ := hI
    obtain ⟨F15, hI⟩ := hI
    obtain ⟨F16, hI⟩ := hI
    obtain ⟨F17, hI⟩ := hI
    obtain ⟨F18, hI⟩ := hI
    obtain ⟨F19, hI⟩ := hI
    obtain ⟨F20, hI⟩ := hI
    have F21 := hI; clear hI
    have hi' : i < 12 := hi
    clear hi
    rcases (by omega : i = 0 ∨ i = 1 ∨ i = 2 ∨ i = 3 ∨ i = 4 ∨ i = 5 ∨ i = 6 ∨ i = 7 ∨ i = 8 ∨ i = 9 ∨ i = 10 ∨ i = 11) with rfl | rfl | rfl | rfl | rfl | rfl | rfl | rfl | rfl | rfl | rfl | rfl
    · simp only [List.getElem?_toArray, List.getElem?_cons_zero, Option.some.injEq] at ho
      subst ho
      refine wpOp_step rfl (fun K hK => ?_)
      go_simp
      refine hK _ _ ?_
      exact ⟨_, _, _, _, _, _, _, _, _, _, _, rfl, fun _ => rfl, lk F1, lk F2, lk F3, lk F4, lk F5, lk F6, lk F7, lk F8, lk F9, lk F10, fun h => ⟨(F11 (ls (by decide) h)).1, (F11 (ls (by decide) h)).2.1, (F11 (ls (by decide) h)).2.2⟩, F12, F13, F14, fun h => F15 (lsf (by decide) h), fun h => F16 (lsf (by decide) h), fun h => F17 (lsf (by decide) h), F18, F19, F20, F21⟩
    · simp only [List.getElem?_toArray, List.getElem?_cons_zero, List.getElem?_cons_succ, Option.some.injEq] at ho
      subst ho
      refine wpOp_step rfl (fun K hK => ?_)
      go_simp
      refine hK _ _ ?_
      exact ⟨_, _, _, _, _, _, _, _, _, _, _, rfl, lk F0, fun _ => rfl, lk F2, lk F3, lk F4, lk F5, lk F6, lk F7, lk F8, lk F9, lk F10, fun h => ⟨(F11 (ls (by decide) h)).1, (F11 (ls (by decide) h)).2.1, (F11 (ls (by decide) h)).2.2⟩, F12, F13, F14, fun h => F15 (lsf (by decide) h), fun h => F16 (lsf (by decide) h), fun h => F17 (lsf (by decide) h), F18, F19, F20, F21⟩
    · simp only [List.getElem?_toArray, List.getElem?_cons_zero, List.getElem?_cons_succ, Option.some.injEq] at ho
      subst ho
      obtain rfl := F1 (hd ⟨1, .data⟩ (by simp) rfl)
      have h0 := F13
      refine wpOp_step rfl (fun K hK => ?_)
      go_simp
      refine hK _ _ ?_
      exact ⟨_, _, _, _, _, _, _, _, _, _, _, rfl, lk F0, lk F1, fun _ => rfl, lk F3, lk F4, lk F5, lk F6, lk F7, lk F8, lk F9, lk F10, fun h => ⟨(F11 (ls (by decide) h)).1, (F11 (ls (by decide) h)).2.1, (F11 (ls (by decide) h)).2.2⟩, F12, F13, F14, fun h => F15 (lsf (by decide) h), fun h => F16 (lsf (by decide) h), fun h => F17 (lsf (by decide) h), F18, F19, F20, F21⟩
    · simp only [List.getElem?_toArray, List.getElem?_cons_zero, List.getElem?_cons_succ, Option.some.injEq] at ho
      subst ho
      obtain rfl := F0 (hd ⟨0, .data⟩ (by simp) rfl)
      obtain rfl := F2 (hd ⟨2, .data⟩ (by simp) rfl)
      have z_gr := F21
      refine wpOp_step rfl (fun K hK => ?_)
      go_simp
      go_at_call 39
      refine (H1.out _ F12).mono ?_
      rintro e w' ⟨rfl, hb⟩
      refine hK _ _ ?_
      exact ⟨_, _, _, _, _, _, _, _, _, _, _, rfl, lk F0, lk F1, lk F2, fun _ => rfl, lk F4, lk F5, lk F6, lk F7, lk F8, lk F9, lk F10, fun h => ⟨cell_call (F11 (ls (by decide) h)).1 hb, cell_call (F11 (ls (by decide) h)).2.1 hb, cell_call (F11 (ls (by decide) h)).2.2 hb⟩, bt F12 hb, cell_call F13 hb, cell_call F14 hb, fun h => cell_call (F15 (lsf (by decide) h)) hb, fun h => cell_call (F16 (lsf (by decide) h)) hb, fun h => cell_call (F17 (lsf (by decide) h)) hb, froz_call F18 z_gr hb, froz_call F19 z_gr hb, froz_call F20 z_gr hb, zz hb F21⟩
    · simp only [List.getElem?_toArray, List.getElem?_cons_zero, List.getElem?_cons_succ, Option.some.injEq] at ho
      subst ho
      obtain rfl := F3 (hd ⟨3, .data⟩ (by simp) rfl)
      refine wpOp_step rfl (fun K hK => ?_)
      go_simp
      refine hK _ _ ?_
      exact ⟨_, _, _, _, _, _, _, _, _, _, _, rfl, lk F0, lk F1, lk F2, lk F3, fun _ => rfl, lk F5, lk F6, lk F7, lk F8, lk F9, lk F10, fun h => ⟨(F11 (ls (by decide) h)).1, (F11 (ls (by decide) h)).2.1, (F11 (ls (by decide) h)).2.2⟩, F12, F13, F14, fun h => F15 (lsf (by decide) h), fun h => F16 (lsf (by decide) h), fun h => F17 (lsf (by decide) h), F18, F19, F20, F21⟩
    · simp only [List.getElem?_toArray, List.getElem?_cons_zero, List.getElem?_cons_succ, Option.some.injEq] at ho
      subst ho
      obtain rfl := F4 (hd ⟨4, .data⟩ (by simp) rfl)
      have h0 := F14
      refine wpOp_step rfl (fun K hK => ?_)
      go_simp
      refine hK _ _ ?_
      exact ⟨_, _, _, _, _, _, _, _, _, _, _, rfl, lk F0, lk F1, lk F2, lk F3, lk F4, fun _ => rfl, lk F6, lk F7, lk F8, lk F9, lk F10, fun h => ⟨(F11 (ls (by decide) h)).1, (F11 (ls (by decide) h)).2.1, (F11 (ls (by decide) h)).2.2⟩, F12, F13, F14, fun h => F15 (lsf (by decide) h), fun h => F16 (lsf (by decide) h), fun h => F17 (lsf (by decide) h), F18, F19, F20, F21⟩
    · simp only [List.getElem?_toArray, List.getElem?_cons_zero, List.getElem?_cons_succ, Option.some.injEq] at ho
      subst ho
      refine wpOp_step rfl (fun K hK => ?_)
      go_simp
      refine hK _ _ ?_
      exact ⟨_, _, _, _, _, _, _, _, _, _, _, rfl, lk F0, lk F1, lk F2, lk F3, lk F4, lk F5, fun _ => rfl, lk F7, lk F8, lk F9, lk F10, fun h => ⟨(F11 (ls (by decide) h)).1, (F11 (ls (by decide) h)).2.1, (F11 (ls (by decide) h)).2.2⟩, F12, F13, F14, fun h => F15 (lsf (by decide) h), fun h => F16 (lsf (by decide) h), fun h => F17 (lsf (by decide) h), F18, F19, F20, F21⟩
    · simp only [List.getElem?_toArray, List.getElem?_cons_zero, List.getElem?_cons_succ, Option.some.injEq] at ho
      subst ho
      refine wpOp_step rfl (fun K hK => ?_)
      go_simp
      refine hK _ _ ?_
      exact ⟨_, _, _, _, _, _, _, _, _, _, _, rfl, lk F0, lk F1, lk F2, lk F3, lk F4, lk F5, lk F6, fun _ => rfl, lk F8, lk F9, lk F10, fun h => ⟨(F11 (ls (by decide) h)).1, (F11 (ls (by decide) h)).2.1, (F11 (ls (by decide) h)).2.2⟩, F12, F13, F14, fun h => F15 (lsf (by decide) h), fun h => F16 (lsf (by decide) h), fun h => F17 (lsf (by decide) h), F18, F19, F20, F21⟩
    · simp only [List.getElem?_toArray, List.getElem?_cons_zero, List.getElem?_cons_succ, Option.some.injEq] at ho
      subst ho
      obtain rfl := F7 (hd ⟨7, .data⟩ (by simp) rfl)
      have h0 := F13
      refine wpOp_step rfl (fun K hK => ?_)
      go_simp
      refine hK _ _ ?_
      exact ⟨_, _, _, _, _, _, _, _, _, _, _, rfl, lk F0, lk F1, lk F2, lk F3, lk F4, lk F5, lk F6, lk F7, fun _ => rfl, lk F9, lk F10, fun h => ⟨(F11 (ls (by decide) h)).1, (F11 (ls (by decide) h)).2.1, (F11 (ls (by decide) h)).2.2⟩, F12, F13, F14, fun h => F15 (lsf (by decide) h), fun h => F16 (lsf (by decide) h), fun h => F17 (lsf (by decide) h), F18, F19, F20, F21⟩
    · simp only [List.getElem?_toArray, List.getElem?_cons_zero, List.getElem?_cons_succ, Option.some.injEq] at ho
      subst ho
      obtain rfl := F6 (hd ⟨6, .data⟩ (by simp) rfl)
      obtain rfl := F8 (hd ⟨8, .data⟩ (by simp) rfl)
      have z_gr := F21
      refine wpOp_step rfl (fun K hK => ?_)
      go_simp
      go_at_call 40
      refine (H2.out _ F12).mono ?_
      rintro e w' ⟨rfl, hb⟩
      refine hK _ _ ?_
      exact ⟨_, _, _, _, _, _, _, _, _, _, _, rfl, lk F0, lk F1, lk F2, lk F3, lk F4, lk F5, lk F6, lk F7, lk F8, fun _ => rfl, lk F10, fun h => ⟨cell_call (F11 (ls (by decide) h)).1 hb, cell_call (F11 (ls (by decide) h)).2.1 hb, cell_call (F11 (ls (by decide) h)).2.2 hb⟩, bt F12 hb, cell_call F13 hb, cell_call F14 hb, fun h => cell_call (F15 (lsf (by decide) h)) hb, fun h => cell_call (F16 (lsf (by decide) h)) hb, fun h => cell_call (F17 (lsf (by decide) h)) hb, froz_call F18 z_gr hb, froz_call F19 z_gr hb, froz_call F20 z_gr hb, zz hb F21⟩
    · simp only [List.getElem?_toArray, List.getElem?_cons_zero, List.getElem?_cons_succ, Option.some.injEq] at ho
      subst ho
      obtain rfl := F5 (hd ⟨5, .data⟩ (by simp) rfl)
      obtain rfl := F9 (hd ⟨9, .data⟩ (by simp) rfl)
      refine wpOp_step rfl (fun K hK => ?_)
      go_simp
      refine hK _ _ ?_
      exact ⟨_, _, _, _, _, _, _, _, _, _, _, rfl, lk F0, lk F1, lk F2, lk F3, lk F4, lk F5, lk F6, lk F7, lk F8, lk F9, fun _ => rfl, fun h => ⟨(F11 (ls (by decide) h)).1, (F11 (ls (by decide) h)).2.1, (F11 (ls (by decide) h)).2.2⟩, F12, F13, F14, fun h => F15 (lsf (by decide) h), fun h => F16 (lsf (by decide) h), fun h => F17 (lsf (by decide) h), F18, F19, F20, F21⟩
    · simp only [List.getElem?_toArray, List.getElem?_cons_zero, List.getElem?_cons_succ, Option.some.injEq] at ho
      subst ho
      obtain rfl := F10 (hd ⟨10, .data⟩ (by simp) rfl)
      have h0 := F15 (lf hn); have h1 := F16 (lf hn); have h2 := F17 (lf hn); have g0 := F18; have g1 := F19; have g2 := F20; have z_gr := F21
      refine wpOp_step rfl (fun K hK => ?_)
      go_simp
      refine hK _ _ ?_
      exact ⟨_, _, _, _, _, _, _, _, _, _, _, rfl, lk F0, lk F1, lk F2, lk F3, lk F4, lk F5, lk F6, lk F7, lk F8, lk F9, lk F10, fun _ => ⟨by go_simp, by go_simp, by go_simp⟩, bs (bs (bs F12 p_gr) p_gr) p_gr, cell_far (cell_far (cell_far (F13) n_gx_gr) n_gx_gr) n_gx_gr, cell_far (cell_far (cell_far (F14) n_0_gr) n_0_gr) n_0_gr, fun h => lx hn h, fun h => lx hn h, fun h => lx hn h, (by rw [World.frozen?_setCell, World.frozen?_setCell, World.frozen?_setCell]; exact F18), (by rw [World.frozen?_setCell, World.frozen?_setCell, World.frozen?_setCell]; exact F19), (by rw [World.frozen?_setCell, World.frozen?_setCell, World.frozen?_setCell]; exact F20), (by rw [World.size_setCell, World.size_setCell, World.size_setCell]; exact F21)⟩
  · intro listed A w hall hI
    unfold KdI at hI
    obtain ⟨s9, hI⟩ := hI
    obtain ⟨s10, hI⟩ := hI
    obtain ⟨s11, hI⟩ := hI
    obtain ⟨s12, hI⟩ := hI
    obtain ⟨s13, hI⟩ := hI
    obtain ⟨s14, hI⟩ := hI
    obtain ⟨s15, hI⟩ := hI
    obtain ⟨s16, hI⟩ := hI
    obtain ⟨s17, hI⟩ := hI
    obtain ⟨s18, hI⟩ := hI
    obtain ⟨s19, hI⟩ := hI
    obtain ⟨rfl, hI⟩ := hI
    obtain ⟨F0, hI⟩ := hI
    obtain ⟨F1, hI⟩ := hI
    obtain ⟨F2, hI⟩ := hI
    obtain ⟨F3, hI⟩ := hI
    obtain ⟨F4, hI⟩ := hI
    obtain ⟨F5, hI⟩ := hI
    obtain ⟨F6, hI⟩ := hI
    obtain ⟨F7, hI⟩ := hI
    obtain ⟨F8, hI⟩ := hI
    obtain ⟨F9, hI⟩ := hI
    obtain ⟨F10, hI⟩ := hI
    obtain ⟨F11, hI⟩ := hI
    obtain ⟨F12, hI⟩ := hI
    obtain ⟨F13, hI⟩ := hI
    obtain ⟨F14, hI⟩ := hI
    obtain ⟨F15, hI⟩ := hI
    obtain ⟨F16, hI⟩ := hI
    obtain ⟨F17, hI⟩ := hI
    obtain ⟨F18, hI⟩ := hI
    obtain ⟨F19, hI⟩ := hI
    obtain ⟨F20, hI⟩ := hI
    have F21 := hI; clear hI
    obtain rfl := F0 (hall 0 (by decide))
    obtain rfl := F1 (hall 1 (by decide))
    obtain rfl := F2 (hall 2 (by decide))
    obtain rfl := F3 (hall 3 (by decide))
    obtain rfl := F4 (hall 4 (by decide))
    obtain rfl := F5 (hall 5 (by decide))
    obtain rfl := F6 (hall 6 (by decide))
    obtain rfl := F7 (hall 7 (by decide))
    obtain rfl := F8 (hall 8 (by decide))
    obtain rfl := F9 (hall 9 (by decide))
    obtain rfl := F10 (hall 10 (by decide))
    have P11 := F11 (hall 11 (by decide))
    have HB := F12
    have Q0 := F13
    have Q1 := F14
    have Q5 := F18
    have Q6 := F19
    have Q7 := F20
    have Q8 := F21
    exact hQ _ ⟨P11.1, P11.2.1, P11.2.2, Q8, Q5, Q6, Q7⟩ HB
theorem kind_node (sb q ko : Nat) (m k n c : Int) (s nm : ByteArray) (b : Bool) (hm : ¬ m = 0) (hq : q < 6) (hko : ofNode q = ko) (w : World) (hT : TK2 w)
    (H1 : Hid (∀ w1, Below w.heap.size w w1 → Calls Tryd.prog 39 #[.pointer (some ⟨sb, 0, none⟩), .int .i64 m] w1 fun e w' => e = .returned (.int .i64 (q : Nat)) ∧ Below w1.heap.size w1 w')) (H2 : Hid (∀ w1, Below w.heap.size w w1 → Calls Tryd.prog 40 #[.pointer (some ⟨sb, 0, none⟩), .int .i64 m] w1 fun e w' => e = .returned (.string nm) ∧ Below w1.heap.size w1 w')) :
    Calls Tryd.prog 16 #[.pointer (some ⟨sb, 0, none⟩), .agg #[.int .i64 m, .int .i64 k, .int .i64 n, .int .i64 c, .string s, .bool b]] w fun e w' => e = .returned (.agg #[.int .i64 (ko : Nat), .string nm, .int .i64 0]) ∧ Below w.heap.size w w' := by
  have g0 : (m = 0) = False := by simpa using hm
  have g0b : (m != 0) = true := by simpa using hm
  have hq2 : ((q : Int) < 6) = True := by simp; omega
  have h0 := hT.1 q hq
  rw [hko] at h0
  have hz : 0 < w.heap.size := World.block_lt_of_cell? w _ h0
  go_enter Tryd.func16, Tryd.ntmps16
  go_wp2
  refine Kd_region sb (w.heap.size) (w.heap.size + 1) q ko m nm w (by repeat (with_reducible (first | exact Below.refl _ _ | assumption | apply ba | apply bd | apply bdr | (refine bs ?_ (by first | assumption | (simp; done) | (simp; omega))) | (refine bt ?_ (by assumption))))) (by first | assumption | (go_simp; done) | (go_simp; rfl) | (go_keep; done)) (by first | assumption | (go_simp; done) | (go_simp; rfl) | (go_keep; done)) (by first | assumption | (go_simp; done) | (go_simp; rfl) | (go_keep; done)) (by first | assumption | (go_simp; done) | (go_simp; rfl) | (go_keep; done)) (by first | assumption | (go_simp; done) | (go_simp; rfl) | (go_keep; done)) (by simp only [frozen?_alloc_cells]; exact frz_past w _ _ (by omega)) (by simp only [frozen?_alloc_cells]; exact frz_past w _ _ (by omega)) (by simp only [frozen?_alloc_cells]; exact frz_past w _ _ (by omega)) (by simp) H1 H2 hq hq2 (by omega) (by omega) (by omega) ?_
  rintro w6 ⟨q0, q1, q2, _⟩ hb
  go_wp2
  exact bodyPost_ret (v := .agg #[.int .i64 (ko : Nat), .string nm, .int .i64 0]) (by simp [results, Tryd.results16, go_sem, *]) rfl ⟨rfl, hb⟩
theorem kind_atom (sb : Option Addr) (k : Nat) (n c : Int) (s : ByteArray) (b : Bool) (h1 : 1 ≤ k) (h6 : k < 6) (w : World) (hT : TK2 w) :
    Calls Tryd.prog 16 #[.pointer sb, .agg #[.int .i64 0, .int .i64 (k : Nat), .int .i64 n, .int .i64 c, .string s, .bool b]] w fun e w' => e = .returned (.agg #[.int .i64 (k : Nat), .string (ba' []), .int .i64 0]) ∧ Below w.heap.size w w' := by
  have g1 : decide ((1 : Int) ≤ (k : Int)) = true := by simp; omega
  have g2 : decide ((k : Int) < 6) = true := by simp; omega
  have g3 : ((k : Int) < 6) = True := by simp; omega
  have h0 := hT.2 k h6
  have hz : 1 < w.heap.size := World.block_lt_of_cell? w _ h0
  have hne : (w.heap = #[]) = False := by rw [eq_iff_iff]; exact ⟨fun h => by rw [h] at hz; simp at hz, False.elim⟩
  have hcc := fun (a b : Obj) => cell_new (o := b) (cell_new (o := a) h0)
  have hz1 : (1 = w.heap.size) = False := by simp; omega
  have hz2 : (w.heap.size = 1) = False := by simp; omega
  go_enter Tryd.func16, Tryd.ntmps16
  go_wp2
  exact bodyPost_ret (v := .agg #[.int .i64 (k : Nat), .string (ba' []), .int .i64 0]) (by simp [results, Tryd.results16, go_sem, *] <;> first | rfl | omega) rfl ⟨rfl, (by repeat (with_reducible (first | exact Below.refl _ _ | assumption | apply ba | apply bd | apply bdr | (refine bs ?_ (by first | assumption | (simp; done) | (simp; omega))) | (refine bt ?_ (by assumption)))))⟩
end Go.Proofs.YtjpopmgnhgancaaDoor
namespace Go.Proofs.YtjpopmgnhgancaaDoor
open Go.RowKit Go.Lib
/-- An item that came in. -/
structure It where
  m : Int
  k : Int
  n : Int
  c : Int
  s : ByteArray
  b : Bool
def IRow6 (w : World) (A : Option Addr) (L : List It) : Prop := ∀ (j : Nat) (x : It), L[j]? = some x → ∃ ad, A = some ad ∧ (ad.add (j * 6)).block < w.heap.size ∧ w.cell? (ad.add (j * 6)) = some (.int .i64 x.m) ∧ w.cell? { block := (ad.add (j * 6)).block, off := (ad.add (j * 6)).off + 1 } = some (.int .i64 x.k) ∧ w.cell? { block := (ad.add (j * 6)).block, off := (ad.add (j * 6)).off + 2 } = some (.int .i64 x.n) ∧ w.cell? { block := (ad.add (j * 6)).block, off := (ad.add (j * 6)).off + 3 } = some (.int .i64 x.c) ∧ w.cell? { block := (ad.add (j * 6)).block, off := (ad.add (j * 6)).off + 4 } = some (.string x.s) ∧ w.cell? { block := (ad.add (j * 6)).block, off := (ad.add (j * 6)).off + 5 } = some (.bool x.b)
end Go.Proofs.YtjpopmgnhgancaaDoor
namespace Go.Proofs.YtjpopmgnhgancaaDoor
open Go.RowKit Go.Lib
set_option maxRecDepth 100000
set_option maxHeartbeats 8000000
def IsI (w0 : World) (sb gx gt ki ko ti to : Nat) (xm xk xn xc : Int) (xs kn tn : ByteArray) (xb r : Bool) (c1 c2 c3 : Value) (listed : Array Bool) (A : Act) (w : World) : Prop := ∃ (s6 s7 s8 s9 s10 s11 s12 s13 : Value), A = { tmps := #[.pointer (some ⟨sb, 0, none⟩), c1, c2, c3, .pointer (some ⟨gx, 0, none⟩), .pointer (some ⟨gt, 0, none⟩), s6, s7, s8, s9, s10, s11, s12, s13], defers := [] } ∧
  (listed.getD 0 false = true → s7 = .pointer (some ⟨sb, 0, none⟩)) ∧
  (listed.getD 1 false = true → s8 = .agg #[.int .i64 xm, .int .i64 xk, .int .i64 xn, .int .i64 xc, .string xs, .bool xb]) ∧
  (listed.getD 2 false = true → s9 = .agg #[.int .i64 (ki : Nat), .string kn, .int .i64 (ko : Nat)]) ∧
  (listed.getD 3 false = true → s10 = .agg #[.int .i64 (ki : Nat), .string kn]) ∧
  (listed.getD 4 false = true → s11 = .agg #[.int .i64 (ti : Nat), .string tn, .int .i64 (to : Nat)]) ∧
  (listed.getD 5 false = true → s12 = .agg #[.int .i64 (ti : Nat), .string tn]) ∧
  (listed.getD 6 false = true → s13 = .bool r) ∧
  (listed.getD 7 false = true → s6 = .bool r) ∧
  Below w0.heap.size w0 w ∧
  w.cell? ⟨gx, 0, none⟩ = some (.int .i64 xm) ∧
  w.cell? ⟨gx, 1, none⟩ = some (.int .i64 xk) ∧
  w.cell? ⟨gx, 2, none⟩ = some (.int .i64 xn) ∧
  w.cell? ⟨gx, 3, none⟩ = some (.int .i64 xc) ∧
  w.cell? ⟨gx, 4, none⟩ = some (.string xs) ∧
  w.cell? ⟨gx, 5, none⟩ = some (.bool xb) ∧
  w.cell? ⟨gt, 0, none⟩ = some (.int .i64 (ti : Nat)) ∧
  w.cell? ⟨gt, 1, none⟩ = some (.string tn) ∧
  w.cell? ⟨gt, 2, none⟩ = some (.int .i64 (to : Nat))
set_option maxRecDepth 100000 in
set_option maxHeartbeats 16000000 in
theorem Is_region (sb gx gt ki ko ti to : Nat) (xm xk xn xc : Int) (xs kn tn : ByteArray) (xb r : Bool) {x6 x7 x8 x9 x10 x11 x12 x13 : Value} {c1 c2 c3 : Value} (w0 : World) {W : World} {Q : Exit → Act → World → Prop} (hb0 : Below w0.heap.size w0 W) (C0 : W.cell? ⟨gx, 0, none⟩ = some (.int .i64 xm)) (C1 : W.cell? ⟨gx, 1, none⟩ = some (.int .i64 xk)) (C2 : W.cell? ⟨gx, 2, none⟩ = some (.int .i64 xn)) (C3 : W.cell? ⟨gx, 3, none⟩ = some (.int .i64 xc)) (C4 : W.cell? ⟨gx, 4, none⟩ = some (.string xs)) (C5 : W.cell? ⟨gx, 5, none⟩ = some (.bool xb)) (C6 : W.cell? ⟨gt, 0, none⟩ = some (.int .i64 (ti : Nat))) (C7 : W.cell? ⟨gt, 1, none⟩ = some (.string tn)) (C8 : W.cell? ⟨gt, 2, none⟩ = some (.int .i64 (to : Nat)))  (H1 : Hid (∀ w1, Below w0.heap.size w0 w1 → Calls Tryd.prog 16 #[.pointer (some ⟨sb, 0, none⟩), .agg #[.int .i64 xm, .int .i64 xk, .int .i64 xn, .int .i64 xc, .string xs, .bool xb]] w1 fun e w' => e = .returned (.agg #[.int .i64 (ki : Nat), .string kn, .int .i64 (ko : Nat)]) ∧ Below w1.heap.size w1 w')) (H2 : Hid (∀ w1, Below w0.heap.size w0 w1 → Calls Tryd.prog 41 #[.agg #[.int .i64 (ki : Nat), .string kn, .int .i64 (ko : Nat)]] w1 fun e w' => e = .returned (.agg #[.int .i64 (ki : Nat), .string kn]) ∧ Below w1.heap.size w1 w')) (H3 : Hid (∀ w1, Below w0.heap.size w0 w1 → Calls Tryd.prog 41 #[.agg #[.int .i64 (ti : Nat), .string tn, .int .i64 (to : Nat)]] w1 fun e w' => e = .returned (.agg #[.int .i64 (ti : Nat), .string tn]) ∧ Below w1.heap.size w1 w')) (H4 : Hid (∀ w1, Below w0.heap.size w0 w1 → Calls Tryd.prog 42 #[.agg #[.int .i64 (ki : Nat), .string kn], .agg #[.int .i64 (ti : Nat), .string tn]] w1 fun e w' => e = .returned (.bool r) ∧ Below w1.heap.size w1 w'))
    (hQ : ∀ (w : World) , (True) → Below w0.heap.size w0 w → Q .normal { tmps := #[.pointer (some ⟨sb, 0, none⟩), c1, c2, c3, .pointer (some ⟨gx, 0, none⟩), .pointer (some ⟨gt, 0, none⟩), .bool r, .pointer (some ⟨sb, 0, none⟩), .agg #[.int .i64 xm, .int .i64 xk, .int .i64 xn, .int .i64 xc, .string xs, .bool xb], .agg #[.int .i64 (ki : Nat), .string kn, .int .i64 (ko : Nat)], .agg #[.int .i64 (ki : Nat), .string kn], .agg #[.int .i64 (ti : Nat), .string tn, .int .i64 (to : Nat)], .agg #[.int .i64 (ti : Nat), .string tn], .bool r], defers := [] } w) :
    Code.wp Tryd.prog ((Tryd.f17.body.bind (regionOf 1)).getD .skip) Q { tmps := #[.pointer (some ⟨sb, 0, none⟩), c1, c2, c3, .pointer (some ⟨gx, 0, none⟩), .pointer (some ⟨gt, 0, none⟩), x6, x7, x8, x9, x10, x11, x12, x13], defers := [] } W := by
  conv => arg 2; whnf
  refine wp_region_inv (by kernel_rfl) (by kernel_rfl) (IsI w0 sb gx gt ki ko ti to xm xk xn xc xs kn tn xb r c1 c2 c3) ?_ ?_ ?_
  · exact ⟨_, _, _, _, _, _, _, _, rfl, fun h => absurd h l0, fun h => absurd h l0, fun h => absurd h l0, fun h => absurd h l0, fun h => absurd h l0, fun h => absurd h l0, fun h => absurd h l0, fun h => absurd h l0, bdr hb0, C0, C1, C2, C3, C4, C5, C6, C7, C8⟩
  · intro i o listed A w hi ho hd hn hI
    unfold IsI at hI
    obtain ⟨s6, hI⟩ := hI
    obtain ⟨s7, hI⟩ := hI
    obtain ⟨s8, hI⟩ := hI
    obtain ⟨s9, hI⟩ := hI
    obtain ⟨s10, hI⟩ := hI
    obtain ⟨s11, hI⟩ := hI
    obtain ⟨s12, hI⟩ := hI
    obtain ⟨s13, hI⟩ := hI
    obtain ⟨rfl, hI⟩ := hI
    obtain ⟨F0, hI⟩ := hI
    obtain ⟨F1, hI⟩ := hI
    obtain ⟨F2, hI⟩ := hI
    obtain ⟨F3, hI⟩ := hI
    obtain ⟨F4, hI⟩ := hI
    obtain ⟨F5, hI⟩ := hI
    obtain ⟨F6, hI⟩ := hI
    obtain ⟨F7, hI⟩ := hI
    obtain ⟨F8, hI⟩ := hI
    obtain ⟨F9, hI⟩ := hI
    obtain ⟨F10, hI⟩ := hI
    obtain ⟨F11, hI⟩ := hI
    obtain ⟨F12, hI⟩ := hI
    obtain ⟨F13, hI⟩ := hI
    obtain ⟨F14, hI⟩ := hI
    obtain ⟨F15, hI⟩ := hI
    obtain ⟨F16, hI⟩ := hI
    have F17 := hI; clear hI
    have hi' : i < 8 := hi
    clear hi
    rcases (by omega : i = 0 ∨ i = 1 ∨ i = 2 ∨ i = 3 ∨ i = 4 ∨ i = 5 ∨ i = 6 ∨ i = 7) with rfl | rfl | rfl | rfl | rfl | rfl | rfl | rfl
    · simp only [List.getElem?_toArray, List.getElem?_cons_zero, Option.some.injEq] at ho
      subst ho
      refine wpOp_step rfl (fun K hK => ?_)
      go_simp
      refine hK _ _ ?_
      exact ⟨_, _, _, _, _, _, _, _, rfl, fun _ => rfl, lk F1, lk F2, lk F3, lk F4, lk F5, lk F6, lk F7, F8, F9, F10, F11, F12, F13, F14, F15, F16, F17⟩
    · simp only [List.getElem?_toArray, List.getElem?_cons_zero, List.getElem?_cons_succ, Option.some.injEq] at ho
      subst ho
      have h0 := F9; have h1 := F10; have h2 := F11; have h3 := F12; have h4 := F13; have h5 := F14
      refine wpOp_step rfl (fun K hK => ?_)
      go_simp
      refine hK _ _ ?_
      exact ⟨_, _, _, _, _, _, _, _, rfl, lk F0, fun _ => rfl, lk F2, lk F3, lk F4, lk F5, lk F6, lk F7, F8, F9, F10, F11, F12, F13, F14, F15, F16, F17⟩
    · simp only [List.getElem?_toArray, List.getElem?_cons_zero, List.getElem?_cons_succ, Option.some.injEq] at ho
      subst ho
      obtain rfl := F0 (hd ⟨0, .data⟩ (by simp) rfl)
      obtain rfl := F1 (hd ⟨1, .data⟩ (by simp) rfl)
      refine wpOp_step rfl (fun K hK => ?_)
      go_simp
      go_at_call 16
      refine (H1.out _ F8).mono ?_
      rintro e w' ⟨rfl, hb⟩
      refine hK _ _ ?_
      exact ⟨_, _, _, _, _, _, _, _, rfl, lk F0, lk F1, fun _ => rfl, lk F3, lk F4, lk F5, lk F6, lk F7, bt F8 hb, cell_call F9 hb, cell_call F10 hb, cell_call F11 hb, cell_call F12 hb, cell_call F13 hb, cell_call F14 hb, cell_call F15 hb, cell_call F16 hb, cell_call F17 hb⟩
    · simp only [List.getElem?_toArray, List.getElem?_cons_zero, List.getElem?_cons_succ, Option.some.injEq] at ho
      subst ho
      obtain rfl := F2 (hd ⟨2, .data⟩ (by simp) rfl)
      refine wpOp_step rfl (fun K hK => ?_)
      go_simp
      go_at_call 41
      refine (H2.out _ F8).mono ?_
      rintro e w' ⟨rfl, hb⟩
      refine hK _ _ ?_
      exact ⟨_, _, _, _, _, _, _, _, rfl, lk F0, lk F1, lk F2, fun _ => rfl, lk F4, lk F5, lk F6, lk F7, bt F8 hb, cell_call F9 hb, cell_call F10 hb, cell_call F11 hb, cell_call F12 hb, cell_call F13 hb, cell_call F14 hb, cell_call F15 hb, cell_call F16 hb, cell_call F17 hb⟩
    · simp only [List.getElem?_toArray, List.getElem?_cons_zero, List.getElem?_cons_succ, Option.some.injEq] at ho
      subst ho
      have h0 := F15; have h1 := F16; have h2 := F17
      refine wpOp_step rfl (fun K hK => ?_)
      go_simp
      refine hK _ _ ?_
      exact ⟨_, _, _, _, _, _, _, _, rfl, lk F0, lk F1, lk F2, lk F3, fun _ => rfl, lk F5, lk F6, lk F7, F8, F9, F10, F11, F12, F13, F14, F15, F16, F17⟩
    · simp only [List.getElem?_toArray, List.getElem?_cons_zero, List.getElem?_cons_succ, Option.some.injEq] at ho
      subst ho
      obtain rfl := F4 (hd ⟨4, .data⟩ (by simp) rfl)
      refine wpOp_step rfl (fun K hK => ?_)
      go_simp
      go_at_call 41
      refine (H3.out _ F8).mono ?_
      rintro e w' ⟨rfl, hb⟩
      refine hK _ _ ?_
      exact ⟨_, _, _, _, _, _, _, _, rfl, lk F0, lk F1, lk F2, lk F3, lk F4, fun _ => rfl, lk F6, lk F7, bt F8 hb, cell_call F9 hb, cell_call F10 hb, cell_call F11 hb, cell_call F12 hb, cell_call F13 hb, cell_call F14 hb, cell_call F15 hb, cell_call F16 hb, cell_call F17 hb⟩
    · simp only [List.getElem?_toArray, List.getElem?_cons_zero, List.getElem?_cons_succ, Option.some.injEq] at ho
      subst ho
      obtain rfl := F3 (hd ⟨3, .data⟩ (by simp) rfl)
      obtain rfl := F5 (hd ⟨5, .data⟩ (by simp) rfl)
      refine wpOp_step rfl (fun K hK => ?_)
      go_simp
      go_at_call 42
      refine (H4.out _ F8).mono ?_
      rintro e w' ⟨rfl, hb⟩
      refine hK _ _ ?_
      exact ⟨_, _, _, _, _, _, _, _, rfl, lk F0, lk F1, lk F2, lk F3, lk F4, lk F5, fun _ => rfl, lk F7, bt F8 hb, cell_call F9 hb, cell_call F10 hb, cell_call F11 hb, cell_call F12 hb, cell_call F13 hb, cell_call F14 hb, cell_call F15 hb, cell_call F16 hb, cell_call F17 hb⟩
    · simp only [List.getElem?_toArray, List.getElem?_cons_zero, List.getElem?_cons_succ, Option.some.injEq] at ho
      subst ho
      obtain rfl := F6 (hd ⟨6, .data⟩ (by simp) rfl)
      refine wpOp_step rfl (fun K hK => ?_)
      go_simp
      refine hK _ _ ?_
      exact ⟨_, _, _, _, _, _, _, _, rfl, lk F0, lk F1, lk F2, lk F3, lk F4, lk F5, lk F6, fun _ => rfl, F8, F9, F10, F11, F12, F13, F14, F15, F16, F17⟩
  · intro listed A w hall hI
    unfold IsI at hI
    obtain ⟨s6, hI⟩ := hI
    obtain ⟨s7, hI⟩ := hI
    obtain ⟨s8, hI⟩ := hI
    obtain ⟨s9, hI⟩ := hI
    obtain ⟨s10, hI⟩ := hI
    obtain ⟨s11, hI⟩ := hI
    obtain ⟨s12, hI⟩ := hI
    obtain ⟨s13, hI⟩ := hI
    obtain ⟨rfl, hI⟩ := hI
    obtain ⟨F0, hI⟩ := hI
    obtain ⟨F1, hI⟩ := hI
    obtain ⟨F2, hI⟩ := hI
    obtain ⟨F3, hI⟩ := hI
    obtain ⟨F4, hI⟩ := hI
    obtain ⟨F5, hI⟩ := hI
    obtain ⟨F6, hI⟩ := hI
    obtain ⟨F7, hI⟩ := hI
    obtain ⟨F8, hI⟩ := hI
    obtain ⟨F9, hI⟩ := hI
    obtain ⟨F10, hI⟩ := hI
    obtain ⟨F11, hI⟩ := hI
    obtain ⟨F12, hI⟩ := hI
    obtain ⟨F13, hI⟩ := hI
    obtain ⟨F14, hI⟩ := hI
    obtain ⟨F15, hI⟩ := hI
    obtain ⟨F16, hI⟩ := hI
    have F17 := hI; clear hI
    obtain rfl := F0 (hall 0 (by decide))
    obtain rfl := F1 (hall 1 (by decide))
    obtain rfl := F2 (hall 2 (by decide))
    obtain rfl := F3 (hall 3 (by decide))
    obtain rfl := F4 (hall 4 (by decide))
    obtain rfl := F5 (hall 5 (by decide))
    obtain rfl := F6 (hall 6 (by decide))
    obtain rfl := F7 (hall 7 (by decide))
    have HB := F8
    have Q0 := F9
    have Q1 := F10
    have Q2 := F11
    have Q3 := F12
    have Q4 := F13
    have Q5 := F14
    have Q6 := F15
    have Q7 := F16
    have Q8 := F17
    exact hQ _ trivial HB
theorem is_any (sb : Nat) (xm xk xn xc : Int) (xs : ByteArray) (xb : Bool) (q t : TT) (hq : GT q) (w : World) (hE : TE w)
    (H1 : Hid (∀ w1, Below w.heap.size w w1 → Calls Tryd.prog 16 #[.pointer (some ⟨sb, 0, none⟩), .agg #[.int .i64 xm, .int .i64 xk, .int .i64 xn, .int .i64 xc, .string xs, .bool xb]] w1 fun e w' => e = .returned (.agg #[.int .i64 (q.k.i : Nat), .string (ba' q.k.n), .int .i64 (q.o : Nat)]) ∧ Below w1.heap.size w1 w')) :
    Calls Tryd.prog 17 #[.pointer (some ⟨sb, 0, none⟩), .agg #[.int .i64 xm, .int .i64 xk, .int .i64 xn, .int .i64 xc, .string xs, .bool xb], .agg #[.int .i64 (t.k.i : Nat), .string (ba' t.k.n), .int .i64 (t.o : Nat)]] w fun e w' => e = .returned (.bool (lieB q.k t.k)) ∧ Below w.heap.size w w' := by
  have H2 : Hid (∀ w1, Below w.heap.size w w1 → Calls Tryd.prog 41 #[.agg #[.int .i64 (q.k.i : Nat), .string (ba' q.k.n), .int .i64 (q.o : Nat)]] w1 fun e w' => e = .returned (.agg #[.int .i64 (q.k.i : Nat), .string (ba' q.k.n)]) ∧ Below w1.heap.size w1 w') := Lib.hid fun w1 _ => kindOf_is _ _ _ w1
  have H3 : Hid (∀ w1, Below w.heap.size w w1 → Calls Tryd.prog 41 #[.agg #[.int .i64 (t.k.i : Nat), .string (ba' t.k.n), .int .i64 (t.o : Nat)]] w1 fun e w' => e = .returned (.agg #[.int .i64 (t.k.i : Nat), .string (ba' t.k.n)]) ∧ Below w1.heap.size w1 w') := Lib.hid fun w1 _ => kindOf_is _ _ _ w1
  have H4 : Hid (∀ w1, Below w.heap.size w w1 → Calls Tryd.prog 42 #[.agg #[.int .i64 (q.k.i : Nat), .string (ba' q.k.n)], .agg #[.int .i64 (t.k.i : Nat), .string (ba' t.k.n)]] w1 fun e w' => e = .returned (.bool (lieB q.k t.k)) ∧ Below w1.heap.size w1 w') := Lib.hid fun w1 hw => lies_is q.k t.k hq.1 w1 (hE.below hw)
  obtain ⟨r, hr⟩ : ∃ r, lieB q.k t.k = r := ⟨_, rfl⟩
  rw [hr] at H4 ⊢
  clear hr hq hE
  obtain ⟨⟨ki, kn⟩, ko⟩ := q
  obtain ⟨⟨ti, tn⟩, to⟩ := t
  simp only at *
  go_enter Tryd.func17, Tryd.ntmps17
  go_wp2
  refine Is_region sb (w.heap.size) (w.heap.size + 1) ki ko ti to xm xk xn xc xs (ba' kn) (ba' tn) xb r w (by repeat (with_reducible (first | exact Below.refl _ _ | assumption | apply ba | apply bd | apply bdr | (refine bs ?_ (by first | assumption | (simp; done) | (simp; omega))) | (refine bt ?_ (by assumption))))) (by first | assumption | (go_simp; done) | (go_simp; rfl) | (go_keep; done)) (by first | assumption | (go_simp; done) | (go_simp; rfl) | (go_keep; done)) (by first | assumption | (go_simp; done) | (go_simp; rfl) | (go_keep; done)) (by first | assumption | (go_simp; done) | (go_simp; rfl) | (go_keep; done)) (by first | assumption | (go_simp; done) | (go_simp; rfl) | (go_keep; done)) (by first | assumption | (go_simp; done) | (go_simp; rfl) | (go_keep; done)) (by first | assumption | (go_simp; done) | (go_simp; rfl) | (go_keep; done)) (by first | assumption | (go_simp; done) | (go_simp; rfl) | (go_keep; done)) (by first | assumption | (go_simp; done) | (go_simp; rfl) | (go_keep; done)) H1 H2 H3 H4 ?_
  rintro w6 _ hb
  go_wp2
  go_ret
  exact ⟨rfl, hb⟩
end Go.Proofs.YtjpopmgnhgancaaDoor
namespace Go.Proofs.YtjpopmgnhgancaaDoor
open Go.RowKit Go.Lib
set_option maxRecDepth 100000
set_option maxHeartbeats 16000000
def matchB (kindT : It → TT) (t : TT) (xs : List It) : Bool := inC (min xs.length 2, min xs.length 2) (cT t) && xs.all (fun x => lieB (kindT x).k t.k)
theorem match_any (kindT : It → TT) (sb : Nat) (t : TT) (ht : GT t) (Ai : Option Addr) (ci ni : Nat) (xs : List It) (hn : xs.length = ni) (hni : ni ≤ 1048576) (w : World) (hE : TE w) (hI : IRow6 w Ai xs) (hg : ∀ x ∈ xs, GT (kindT x))
    (HK : Hid (∀ x ∈ xs, ∀ w1, Below w.heap.size w w1 → Calls Tryd.prog 16 #[.pointer (some ⟨sb, 0, none⟩), .agg #[.int .i64 x.m, .int .i64 x.k, .int .i64 x.n, .int .i64 x.c, .string x.s, .bool x.b]] w1 fun e w' => e = .returned (.agg #[.int .i64 ((kindT x).k.i : Nat), .string (ba' (kindT x).k.n), .int .i64 ((kindT x).o : Nat)]) ∧ Below w1.heap.size w1 w')) :
    Calls Tryd.prog 13 #[.pointer (some ⟨sb, 0, none⟩), .agg #[.int .i64 (t.k.i : Nat), .string (ba' t.k.n), .int .i64 (t.o : Nat)], .slice Ai ni ci] w fun e w' => e = .returned (.bool (matchB kindT t xs)) ∧ Below w.heap.size w w' := by
  have H1 : Hid (∀ w1, Below w.heap.size w w1 → Calls Tryd.prog 34 #[.int .i64 (ni : Nat)] w1 fun e w' => e = .returned (.agg #[.int .i64 ((min ni 2) : Nat), .int .i64 ((min ni 2) : Nat)]) ∧ Below w1.heap.size w1 w') := Lib.hid fun w1 _ => exactly_is ni w1
  have H2 : Hid (∀ w1, Below w.heap.size w w1 → Calls Tryd.prog 36 #[.agg #[.int .i64 (t.k.i : Nat), .string (ba' t.k.n), .int .i64 (t.o : Nat)]] w1 fun e w' => e = .returned (.agg #[.int .i64 ((cT t).1 : Nat), .int .i64 ((cT t).2 : Nat)]) ∧ Below w1.heap.size w1 w') := Lib.hid fun w1 _ => countOf_t t ht w1
  have H3 : Hid (∀ w1, Below w.heap.size w w1 → Calls Tryd.prog 35 #[.agg #[.int .i64 ((min ni 2) : Nat), .int .i64 ((min ni 2) : Nat)], .agg #[.int .i64 ((cT t).1 : Nat), .int .i64 ((cT t).2 : Nat)]] w1 fun e w' => e = .returned (.bool (inC (min ni 2, min ni 2) (cT t))) ∧ Below w1.heap.size w1 w') := Lib.hid fun w1 _ => in_is _ _ _ _ w1
  have HIS : Hid (∀ x ∈ xs, ∀ w1, Below w.heap.size w w1 → Calls Tryd.prog 17 #[.pointer (some ⟨sb, 0, none⟩), .agg #[.int .i64 x.m, .int .i64 x.k, .int .i64 x.n, .int .i64 x.c, .string x.s, .bool x.b], .agg #[.int .i64 (t.k.i : Nat), .string (ba' t.k.n), .int .i64 (t.o : Nat)]] w1 fun e w' => e = .returned (.bool (lieB (kindT x).k t.k)) ∧ Below w1.heap.size w1 w') := Lib.hid fun x hx w1 h1 =>
    is_any sb x.m x.k x.n x.c x.s x.b (kindT x) t (hg x hx) w1 (hE.below h1) (Lib.hid fun w2 h2 => HK.out x hx w2 (bt h1 h2))
  have HII := Lib.hid hI
  have HXS := Lib.hid hn
  obtain ⟨res, hres⟩ : ∃ b, matchB kindT t xs = b := ⟨_, rfl⟩
  rw [hres]
  unfold matchB at hres
  rw [hn] at hres
  obtain ⟨r, hr⟩ : ∃ r, inC (min ni 2, min ni 2) (cT t) = r := ⟨_, rfl⟩
  rw [hr] at H3 hres
  obtain ⟨⟨c0, c1⟩, h⟩ : ∃ c, cT t = c := ⟨_, rfl⟩
  rw [h] at H2 H3
  obtain ⟨q, hq⟩ : ∃ q, min ni 2 = q := ⟨_, rfl⟩
  rw [hq] at H1 H3
  have HRS := Lib.hid hres
  clear h hq hr hres hI hE hn HK
  obtain ⟨⟨ti, tn⟩, to⟩ := t
  simp only at H1 H2 H3 HIS HRS ⊢
  go_enter Tryd.func13, Tryd.ntmps13
  go_wp2
  go_region_held3 (fun w' => w'.cell? ⟨w.heap.size, 0, none⟩ = some (.int .i64 (ti : Nat)) ∧ w'.cell? ⟨w.heap.size, 1, none⟩ = some (.string (ba' tn)) ∧ w'.cell? ⟨w.heap.size, 2, none⟩ = some (.int .i64 (to : Nat)) ∧ w.heap.size < w'.heap.size ∧ Below w.heap.size w w')
    (first | (go_keep; done) | ((repeat' apply And.intro) <;> first | assumption | (go_keep; done) | (refine Nat.lt_of_lt_of_le (by assumption) ?_; simp; done) | (simp; omega) | exact zz (by assumption) (by simp) | exact zz (by assumption) (by assumption) | repeat (with_reducible (first | exact Below.refl _ _ | assumption | apply ba | apply bd | apply bdr | (refine bs ?_ (by first | assumption | (simp; done) | (simp; omega))) | (refine bt ?_ (by assumption))))))
    (first
      | (go_at_call 34; refine (H1.out _ (by repeat (with_reducible (first | exact Below.refl _ _ | assumption | apply ba | apply bd | apply bdr | (refine bs ?_ (by first | assumption | (simp; done) | (simp; omega))) | (refine bt ?_ (by assumption)))))).mono ?_; rintro e w1 ⟨rfl, hb1⟩; have B1 : Below w.heap.size w w1 := (by repeat (with_reducible (first | exact Below.refl _ _ | assumption | apply ba | apply bd | apply bdr | (refine bs ?_ (by first | assumption | (simp; done) | (simp; omega))) | (refine bt ?_ (by assumption))))); have y1 := B1.size; have hc1_0 := fun o => (bcell hb1).1 (w.heap.size) o (by first | (simp; done) | assumption | (simp; omega)); have hf1_0 := fun o => (bcell hb1).2 (w.heap.size) o (by first | (simp; done) | assumption | (simp; omega)); have z1_0 : w.heap.size < w1.heap.size := zz hb1 (by first | (simp; done) | assumption | (simp; omega)))
      | (go_at_call 36; refine (H2.out _ (by repeat (with_reducible (first | exact Below.refl _ _ | assumption | apply ba | apply bd | apply bdr | (refine bs ?_ (by first | assumption | (simp; done) | (simp; omega))) | (refine bt ?_ (by assumption)))))).mono ?_; rintro e w2 ⟨rfl, hb2⟩; have B2 : Below w.heap.size w w2 := (by repeat (with_reducible (first | exact Below.refl _ _ | assumption | apply ba | apply bd | apply bdr | (refine bs ?_ (by first | assumption | (simp; done) | (simp; omega))) | (refine bt ?_ (by assumption))))); have y2 := B2.size; have hc2_0 := fun o => (bcell hb2).1 (w.heap.size) o (by first | (simp; done) | assumption | (simp; omega)); have hf2_0 := fun o => (bcell hb2).2 (w.heap.size) o (by first | (simp; done) | assumption | (simp; omega)); have z2_0 : w.heap.size < w2.heap.size := zz hb2 (by first | (simp; done) | assumption | (simp; omega)))
      | (go_at_call 35; refine (H3.out _ (by repeat (with_reducible (first | exact Below.refl _ _ | assumption | apply ba | apply bd | apply bdr | (refine bs ?_ (by first | assumption | (simp; done) | (simp; omega))) | (refine bt ?_ (by assumption)))))).mono ?_; rintro e w3 ⟨rfl, hb3⟩; have B3 : Below w.heap.size w w3 := (by repeat (with_reducible (first | exact Below.refl _ _ | assumption | apply ba | apply bd | apply bdr | (refine bs ?_ (by first | assumption | (simp; done) | (simp; omega))) | (refine bt ?_ (by assumption))))); have y3 := B3.size; have hc3_0 := fun o => (bcell hb3).1 (w.heap.size) o (by first | (simp; done) | assumption | (simp; omega)); have hf3_0 := fun o => (bcell hb3).2 (w.heap.size) o (by first | (simp; done) | assumption | (simp; omega)); have z3_0 : w.heap.size < w3.heap.size := zz hb3 (by first | (simp; done) | assumption | (simp; omega))))
  have HBW := Lib.hid B3
  have e0 : w3.cell? ⟨w.heap.size, 0, none⟩ = some (.int .i64 (ti : Nat)) := (by first | assumption | (go_simp; done) | (go_simp; rfl) | (go_keep; done))
  have e1 : w3.cell? ⟨w.heap.size, 1, none⟩ = some (.string (ba' tn)) := (by first | assumption | (go_simp; done) | (go_simp; rfl) | (go_keep; done))
  have e2 : w3.cell? ⟨w.heap.size, 2, none⟩ = some (.int .i64 (to : Nat)) := (by first | assumption | (go_simp; done) | (go_simp; rfl) | (go_keep; done))
  have ez : w.heap.size < w3.heap.size := (by first | assumption | (simp; done) | (simp; omega) | (simp at *; omega))
  clear hc1_0 hf1_0 hc2_0 hf2_0 hc3_0 hf3_0 hb1 hb2 hb3 H1 H2 H3
  cases r with
  | false =>
    have hrs : false = res := by have h := HRS.out; rwa [Bool.false_and] at h
    subst hrs
    go_wp2
    go_ret
    exact ⟨rfl, HBW.out⟩
  | true =>
    simp only [Bool.not_true]
    go_wp2
    go_loopw [18] (fun s18 wx => ∃ j : Nat, s18 = .int .i64 (j : Nat) ∧ j ≤ ni ∧ Hid ((xs.take j).all (fun x => lieB (kindT x).k ⟨ti, tn⟩) = true) ∧ Below w3.heap.size w3 wx) (fun s18 _ => ni - (intOf s18).toNat)
    case atStart => exact ⟨0, rfl, Nat.zero_le _, Lib.hid (by simp), Below.refl _ _⟩
    case round =>
      obtain ⟨j, rfl, hj, HAL, hB⟩ := hrel
      have HB := Lib.hid hB
      have HBJ := Lib.hid (bt HBW.out hB)
      have e0' := cell_call e0 hB
      have e1' := cell_call e1 hB
      have e2' := cell_call e2 hB
      have ez' : w.heap.size < wr.heap.size := zz hB ez
      by_cases hlt : j < ni
      · have q1 : decide ((j : Int) < (ni : Int)) = true := by simp; omega
        have q1' : decide (j < ni) = true := by simpa using hlt
        obtain ⟨x, hx⟩ : ∃ x, xs[j]? = some x := ⟨_, List.getElem?_eq_getElem (by rw [HXS.out]; exact hlt)⟩
        obtain ⟨ad, rfl, hb0, d0, d1, d2, d3, d4, d5⟩ := HII.out j x hx
        have d0 := (HBJ.out.cell hb0).trans d0
        have d1 := (HBJ.out.cell (show ({ block := (ad.add (j * 6)).block, off := (ad.add (j * 6)).off + 1 } : Addr).block < w.heap.size from hb0)).trans d1
        have d2 := (HBJ.out.cell (show ({ block := (ad.add (j * 6)).block, off := (ad.add (j * 6)).off + 2 } : Addr).block < w.heap.size from hb0)).trans d2
        have d3 := (HBJ.out.cell (show ({ block := (ad.add (j * 6)).block, off := (ad.add (j * 6)).off + 3 } : Addr).block < w.heap.size from hb0)).trans d3
        have d4 := (HBJ.out.cell (show ({ block := (ad.add (j * 6)).block, off := (ad.add (j * 6)).off + 4 } : Addr).block < w.heap.size from hb0)).trans d4
        have d5 := (HBJ.out.cell (show ({ block := (ad.add (j * 6)).block, off := (ad.add (j * 6)).off + 5 } : Addr).block < w.heap.size from hb0)).trans d5
        have hxm := List.mem_of_getElem? hx
        have hw : wrap64 ((j : Int) + 1) = (j : Int) + 1 := by unfold wrap64; omega
        have HSX := Lib.hid (HIS.out x hxm)
        obtain ⟨rb, hrb⟩ : ∃ b, lieB (kindT x).k ⟨ti, tn⟩ = b := ⟨_, rfl⟩
        rw [hrb] at HSX
        have HRB := Lib.hid hrb
        have HX := Lib.hid hx
        have HXM := Lib.hid hxm
        obtain ⟨xm, xk, xn, xc, xs', xb⟩ := x
        simp only at d0 d1 d2 d3 d4 d5 HSX
        clear hrb hx hxm e0 e1 e2 ez hB
        go_wp2_with fail
        refine (HSX.out _ (by have := HBJ.out; (repeat (with_reducible (first | exact Below.refl _ _ | assumption | apply ba | apply bd | apply bdr | (refine bs ?_ (by first | assumption | (simp; done) | (simp; omega))) | (refine bt ?_ (by assumption))))))).mono ?_
        rintro e w9 ⟨rfl, hb9⟩
        have b9 : Below wr.heap.size wr w9 := (by repeat (with_reducible (first | exact Below.refl _ _ | assumption | apply ba | apply bd | apply bdr | (refine bs ?_ (by first | assumption | (simp; done) | (simp; omega))) | (refine bt ?_ (by assumption)))))
        cases rb with
        | true =>
          go_wp2
          go_roundw
          case measure => simp [intOf]; omega
          case rel => exact ⟨j + 1, by simp, by omega, Lib.hid (by rw [List.take_add_one, HX.out, List.all_append, HAL.out]; simpa using HRB.out), bt HB.out b9⟩
        | false =>
          have hrs : false = res := by
            have h := HRS.out
            rw [Bool.true_and] at h
            rw [← h]
            cases hh : xs.all (fun x => lieB (kindT x).k ⟨ti, tn⟩) with
            | false => rfl
            | true => have := List.all_eq_true.1 hh _ HXM.out; rw [HRB.out] at this; cases this
          subst hrs
          go_wp2
          go_ret
          exact ⟨rfl, bt (bt HBW.out HB.out) b9⟩
      · have q1 : decide ((j : Int) < (ni : Int)) = false := by simp; omega
        have q1' : decide (j < ni) = false := by simpa using hlt
        have hrs : true = res := by
          have h := HRS.out
          rw [Bool.true_and] at h
          rw [← h]
          have h2 := HAL.out
          rw [List.take_of_length_le (by rw [HXS.out]; omega)] at h2
          exact h2.symm
        subst hrs
        go_wp2
        go_ret
        exact ⟨rfl, bt HBW.out HB.out⟩
end Go.Proofs.YtjpopmgnhgancaaDoor
