/- What Times, Sub, Either and Join answer; the examples of the document. No condition beyond what the theorems state. -/
import Derived.Test.YtjpopmgnhgancaaDoorRegs
import Derived.Deep.RegionHeld3
namespace Go.Proofs.YtjpopmgnhgancaaDoor
open Go.RowKit Go.Lib
set_option maxRecDepth 100000
set_option maxHeartbeats 8000000
theorem made_zero (n : ByteArray) (u0 u1 : Nat) (w : World) : Calls Tryd.prog 46 #[.agg #[.int .i64 0, .string n], .agg #[.int .i64 (u0 : Nat), .int .i64 (u1 : Nat)]] w fun e w' => e = .returned (.agg #[.int .i64 0, .string (ba' []), .int .i64 3]) ∧ Below w.heap.size w w' := by
  go_enter Tryd.func46, Tryd.ntmps46
  go_wp2
  exact bodyPost_ret (v := .agg #[.int .i64 0, .string (ba' []), .int .i64 3]) (by simp [results, Tryd.results46, go_sem, *] <;> first | rfl | omega) rfl ⟨rfl, (by repeat (with_reducible (first | exact Below.refl _ _ | assumption | apply ba | apply bd | apply bdr | (refine bs ?_ (by first | assumption | (simp; done) | (simp; omega))) | (refine bt ?_ (by assumption)))))⟩
theorem made_pos (i u0 u1 : Nat) (n : ByteArray) (h0 : ¬ i = 0) (w : World) : Calls Tryd.prog 46 #[.agg #[.int .i64 (i : Nat), .string n], .agg #[.int .i64 (u0 : Nat), .int .i64 (u1 : Nat)]] w fun e w' => e = .returned (.agg #[.int .i64 (i : Nat), .string n, .int .i64 (occC (u0, u1) : Nat)]) ∧ Below w.heap.size w w' := by
  have g0 : (i = 0) = False := by simpa using h0
  have g0b : ((i : Int) == 0) = false := by simpa using h0
  have H1 : Hid (∀ w1, Below w.heap.size w w1 → Calls Tryd.prog 62 #[.agg #[.int .i64 (u0 : Nat), .int .i64 (u1 : Nat)]] w1 fun e w' => e = .returned (.int .i64 (occC (u0, u1) : Nat)) ∧ Below w1.heap.size w1 w') := Lib.hid fun w1 _ => occ_is u0 u1 w1
  obtain ⟨oc, hoc⟩ : ∃ oc, occC (u0, u1) = oc := ⟨_, rfl⟩
  rw [hoc] at H1 ⊢
  clear hoc
  go_enter Tryd.func46, Tryd.ntmps46
  go_wp2
  refine Ma_region (w.heap.size) (w.heap.size + 1) (w.heap.size + 1 + 1) i u0 u1 oc n w (by repeat (with_reducible (first | exact Below.refl _ _ | assumption | apply ba | apply bd | apply bdr | (refine bs ?_ (by first | assumption | (simp; done) | (simp; omega))) | (refine bt ?_ (by assumption))))) (by go_simp) (by go_simp) (by go_simp) (by go_simp) (by go_simp) (by go_simp) (by go_simp) (by simp only [frozen?_alloc_cells]; exact frz_past w _ _ (by omega)) (by simp only [frozen?_alloc_cells]; exact frz_past w _ _ (by omega)) (by simp only [frozen?_alloc_cells]; exact frz_past w _ _ (by omega)) (by simp) H1 (by omega) (by omega) (by omega) ?_
  rintro w1 ⟨q0, q1, q2, _⟩ hb
  go_wp2
  exact bodyPost_ret (v := .agg #[.int .i64 (i : Nat), .string n, .int .i64 (oc : Nat)]) (by simp [results, Tryd.results46, go_sem, *]) rfl ⟨rfl, hb⟩
end Go.Proofs.YtjpopmgnhgancaaDoor
namespace Go.Proofs.YtjpopmgnhgancaaDoor
open Go.RowKit Go.Lib
set_option maxRecDepth 100000
set_option maxHeartbeats 8000000
theorem made_is (k : TK) (c : CTy) (_hk : GK k) (w : World) : Calls Tryd.prog 46 #[.agg #[.int .i64 (k.i : Nat), .string (ba' k.n)], .agg #[.int .i64 (c.1 : Nat), .int .i64 (c.2 : Nat)]] w fun e w' => e = .returned (.agg #[.int .i64 ((madeT k c).k.i : Nat), .string (ba' (madeT k c).k.n), .int .i64 ((madeT k c).o : Nat)]) ∧ Below w.heap.size w w' := by
  rw [madeT]
  by_cases h0 : k.i = 0
  · rw [if_pos h0, h0]
    exact made_zero _ _ _ w
  · rw [if_neg h0]
    exact made_pos _ _ _ _ h0 w
theorem countOf_t (t : TT) (ht : GT t) (w : World) : Calls Tryd.prog 36 #[.agg #[.int .i64 (t.k.i : Nat), .string (ba' t.k.n), .int .i64 (t.o : Nat)]] w fun e w' => e = .returned (.agg #[.int .i64 ((cT t).1 : Nat), .int .i64 ((cT t).2 : Nat)]) ∧ Below w.heap.size w w' := countOf_is t.k.i t.o ht.2 _ w
theorem c_le (t : TT) (ht : GT t) : (cT t).1 ≤ 2 ∧ (cT t).2 ≤ 2 := by
  have h : ∀ (z : Bool) (o : Fin 4), (cz z o.1).1 ≤ 2 ∧ (cz z o.1).2 ≤ 2 := by decide
  exact h (zT t) (f4 ht.2)
theorem times_t (a b : TT) (ha : GT a) (hb : GT b) (w : World) : Calls Tryd.prog 24 #[.agg #[.int .i64 (a.k.i : Nat), .string (ba' a.k.n), .int .i64 (a.o : Nat)], .agg #[.int .i64 (b.k.i : Nat), .string (ba' b.k.n), .int .i64 (b.o : Nat)]] w fun e w' => e = .returned (.agg #[.int .i64 ((timesT a b).k.i : Nat), .string (ba' (timesT a b).k.n), .int .i64 ((timesT a b).o : Nat)]) ∧ Below w.heap.size w w' := by
  have H1 : Hid (∀ w1, Below w.heap.size w w1 → Calls Tryd.prog 36 #[.agg #[.int .i64 (a.k.i : Nat), .string (ba' a.k.n), .int .i64 (a.o : Nat)]] w1 fun e w' => e = .returned (.agg #[.int .i64 ((cT a).1 : Nat), .int .i64 ((cT a).2 : Nat)]) ∧ Below w1.heap.size w1 w') := Lib.hid fun w1 _ => countOf_t a ha w1
  have H2 : Hid (∀ w1, Below w.heap.size w w1 → Calls Tryd.prog 36 #[.agg #[.int .i64 (b.k.i : Nat), .string (ba' b.k.n), .int .i64 (b.o : Nat)]] w1 fun e w' => e = .returned (.agg #[.int .i64 ((cT b).1 : Nat), .int .i64 ((cT b).2 : Nat)]) ∧ Below w1.heap.size w1 w') := Lib.hid fun w1 _ => countOf_t b hb w1
  have H3 : Hid (∀ w1, Below w.heap.size w w1 → Calls Tryd.prog 50 #[.agg #[.int .i64 ((cT a).1 : Nat), .int .i64 ((cT a).2 : Nat)], .agg #[.int .i64 ((cT b).1 : Nat), .int .i64 ((cT b).2 : Nat)]] w1 fun e w' => e = .returned (.agg #[.int .i64 ((timesC (cT a) (cT b)).1 : Nat), .int .i64 ((timesC (cT a) (cT b)).2 : Nat)]) ∧ Below w1.heap.size w1 w') := Lib.hid fun w1 _ => times_is _ _ _ _ (c_le a ha).1 (c_le a ha).2 (c_le b hb).1 (c_le b hb).2 w1
  have H4 : Hid (∀ w1, Below w.heap.size w w1 → Calls Tryd.prog 46 #[.agg #[.int .i64 ((if a.k.i = 0 then noK else b.k).i : Nat), .string (ba' (if a.k.i = 0 then noK else b.k).n)], .agg #[.int .i64 ((timesC (cT a) (cT b)).1 : Nat), .int .i64 ((timesC (cT a) (cT b)).2 : Nat)]] w1 fun e w' => e = .returned (.agg #[.int .i64 ((timesT a b).k.i : Nat), .string (ba' (timesT a b).k.n), .int .i64 ((timesT a b).o : Nat)]) ∧ Below w1.heap.size w1 w') := Lib.hid fun w1 _ => made_is _ _ (by split; exact gk_noK; exact hb.1) w1
  obtain ⟨⟨⟨ri, rn⟩, ro⟩, hr⟩ : ∃ r, timesT a b = r := ⟨_, rfl⟩
  rw [hr] at H4 ⊢
  clear hr
  obtain ⟨⟨a0, a1⟩, h⟩ : ∃ c, cT a = c := ⟨_, rfl⟩
  rw [h] at H1 H3 H4
  clear h
  obtain ⟨⟨b0, b1⟩, h⟩ : ∃ c, cT b = c := ⟨_, rfl⟩
  rw [h] at H2 H3 H4
  clear h
  obtain ⟨⟨m0, m1⟩, h⟩ : ∃ c, timesC (a0, a1) (b0, b1) = c := ⟨_, rfl⟩
  rw [h] at H3 H4
  clear h ha hb
  obtain ⟨⟨ai, an⟩, ao⟩ := a
  obtain ⟨⟨bi, bn⟩, bo⟩ := b
  simp only at *
  by_cases h0 : ai = 0
  · subst h0
    rw [if_pos rfl] at H4
    go_enter Tryd.func24, Tryd.ntmps24
    go_wp2_with fail
    refine (kindOf_is _ _ _ _).mono ?_
    rintro e w1 ⟨rfl, hb1⟩; have B1 : Below w.heap.size w w1 := (by repeat (with_reducible (first | exact Below.refl _ _ | assumption | apply ba | apply bd | apply bdr | (refine bs ?_ (by first | assumption | (simp; done) | (simp; omega))) | (refine bt ?_ (by assumption))))); have y1 := B1.size; have hc1_0 := fun o => (bcell hb1).1 (w.heap.size) o (by first | (simp; done) | assumption | (simp; omega)); have hf1_0 := fun o => (bcell hb1).2 (w.heap.size) o (by first | (simp; done) | assumption | (simp; omega)); have z1_0 : w.heap.size < w1.heap.size := zz hb1 (by first | (simp; done) | assumption | (simp; omega)); have hc1_1 := fun o => (bcell hb1).1 (w.heap.size + 1) o (by first | (simp; done) | assumption | (simp; omega)); have hf1_1 := fun o => (bcell hb1).2 (w.heap.size + 1) o (by first | (simp; done) | assumption | (simp; omega)); have z1_1 : w.heap.size + 1 < w1.heap.size := zz hb1 (by first | (simp; done) | assumption | (simp; omega)); have hc1_2 := fun o => (bcell hb1).1 (w.heap.size + 1 + 1) o (by first | (simp; done) | assumption | (simp; omega)); have hf1_2 := fun o => (bcell hb1).2 (w.heap.size + 1 + 1) o (by first | (simp; done) | assumption | (simp; omega)); have z1_2 : w.heap.size + 1 + 1 < w1.heap.size := zz hb1 (by first | (simp; done) | assumption | (simp; omega))
    go_wp2
    refine Ti_region w1.heap.size (w.heap.size) (w.heap.size + 1) (w.heap.size + 1 + 1) 0 0 ao bi bo a0 a1 b0 b1 m0 m1 ri ro (ba' []) (ba' an) (ba' bn) (ba' rn) w (by repeat (with_reducible (first | exact Below.refl _ _ | assumption | apply ba | apply bd | apply bdr | (refine bs ?_ (by first | assumption | (simp; done) | (simp; omega))) | (refine bt ?_ (by assumption))))) (by first | assumption | (go_simp; done) | (go_simp; rfl) | (go_keep; done)) (by first | assumption | (go_simp; done) | (go_simp; rfl) | (go_keep; done)) (by first | assumption | (go_simp; done) | (go_simp; rfl) | (go_keep; done)) (by first | assumption | (go_simp; done) | (go_simp; rfl) | (go_keep; done)) (by first | assumption | (go_simp; done) | (go_simp; rfl) | (go_keep; done)) (by first | assumption | (go_simp; done) | (go_simp; rfl) | (go_keep; done)) (by first | assumption | (go_simp; done) | (go_simp; rfl) | (go_keep; done)) (by first | assumption | (go_simp; done) | (go_simp; rfl) | (go_keep; done)) (by first | assumption | (go_simp; done) | (go_simp; rfl) | (go_keep; done)) (by first | assumption | (go_simp; done) | (go_simp; rfl) | (go_keep; done)) (by first | assumption | (go_simp; done) | (go_simp; rfl) | (go_keep; done)) (by first | assumption | (simp only [frozen?_alloc_cells, hf1_2]; exact frz_past w _ _ (by omega)) | (simp only [frozen?_alloc_cells]; exact frz_past w _ _ (by omega)) | (go_keep; done)) (by first | assumption | (simp only [frozen?_alloc_cells, hf1_2]; exact frz_past w _ _ (by omega)) | (simp only [frozen?_alloc_cells]; exact frz_past w _ _ (by omega)) | (go_keep; done)) (by first | assumption | (simp only [frozen?_alloc_cells, hf1_2]; exact frz_past w _ _ (by omega)) | (simp only [frozen?_alloc_cells]; exact frz_past w _ _ (by omega)) | (go_keep; done)) (by first | (simp; done) | (simp; omega) | (simp at *; omega)) H1 H2 H3 H4 (by first | (simp; done) | (simp; omega) | (simp at *; omega)) (by first | (simp; done) | (simp; omega) | (simp at *; omega)) (by first | (simp; done) | (simp; omega) | (simp at *; omega)) (by first | (simp; done) | (simp; omega) | (simp at *; omega)) ?_
    rintro w2 ⟨q0, q1, q2, _⟩ hb
    go_wp2
    exact bodyPost_ret (v := .agg #[.int .i64 (ri : Nat), .string (ba' rn), .int .i64 (ro : Nat)]) (by simp [results, Tryd.results24, go_sem, *]) rfl ⟨rfl, hb⟩
  · have g0 : (ai = 0) = False := by simpa using h0
    have g0b : ((ai : Int) == 0) = false := by simpa using h0
    rw [if_neg h0] at H4
    go_enter Tryd.func24, Tryd.ntmps24
    go_wp2_with fail
    refine (kindOf_is _ _ _ _).mono ?_
    rintro e w1 ⟨rfl, hb1⟩; have B1 : Below w.heap.size w w1 := (by repeat (with_reducible (first | exact Below.refl _ _ | assumption | apply ba | apply bd | apply bdr | (refine bs ?_ (by first | assumption | (simp; done) | (simp; omega))) | (refine bt ?_ (by assumption))))); have y1 := B1.size; have hc1_0 := fun o => (bcell hb1).1 (w.heap.size) o (by first | (simp; done) | assumption | (simp; omega)); have hf1_0 := fun o => (bcell hb1).2 (w.heap.size) o (by first | (simp; done) | assumption | (simp; omega)); have z1_0 : w.heap.size < w1.heap.size := zz hb1 (by first | (simp; done) | assumption | (simp; omega)); have hc1_1 := fun o => (bcell hb1).1 (w.heap.size + 1) o (by first | (simp; done) | assumption | (simp; omega)); have hf1_1 := fun o => (bcell hb1).2 (w.heap.size + 1) o (by first | (simp; done) | assumption | (simp; omega)); have z1_1 : w.heap.size + 1 < w1.heap.size := zz hb1 (by first | (simp; done) | assumption | (simp; omega)); have hc1_2 := fun o => (bcell hb1).1 (w.heap.size + 1 + 1) o (by first | (simp; done) | assumption | (simp; omega)); have hf1_2 := fun o => (bcell hb1).2 (w.heap.size + 1 + 1) o (by first | (simp; done) | assumption | (simp; omega)); have z1_2 : w.heap.size + 1 + 1 < w1.heap.size := zz hb1 (by first | (simp; done) | assumption | (simp; omega))
    go_wp2
    refine Ti_region w1.heap.size (w.heap.size) (w.heap.size + 1) (w.heap.size + 1 + 1) bi ai ao bi bo a0 a1 b0 b1 m0 m1 ri ro (ba' bn) (ba' an) (ba' bn) (ba' rn) w (by repeat (with_reducible (first | exact Below.refl _ _ | assumption | apply ba | apply bd | apply bdr | (refine bs ?_ (by first | assumption | (simp; done) | (simp; omega))) | (refine bt ?_ (by assumption))))) (by first | assumption | (go_simp; done) | (go_simp; rfl) | (go_keep; done)) (by first | assumption | (go_simp; done) | (go_simp; rfl) | (go_keep; done)) (by first | assumption | (go_simp; done) | (go_simp; rfl) | (go_keep; done)) (by first | assumption | (go_simp; done) | (go_simp; rfl) | (go_keep; done)) (by first | assumption | (go_simp; done) | (go_simp; rfl) | (go_keep; done)) (by first | assumption | (go_simp; done) | (go_simp; rfl) | (go_keep; done)) (by first | assumption | (go_simp; done) | (go_simp; rfl) | (go_keep; done)) (by first | assumption | (go_simp; done) | (go_simp; rfl) | (go_keep; done)) (by first | assumption | (go_simp; done) | (go_simp; rfl) | (go_keep; done)) (by first | assumption | (go_simp; done) | (go_simp; rfl) | (go_keep; done)) (by first | assumption | (go_simp; done) | (go_simp; rfl) | (go_keep; done)) (by first | assumption | (simp only [frozen?_alloc_cells, hf1_2]; exact frz_past w _ _ (by omega)) | (simp only [frozen?_alloc_cells]; exact frz_past w _ _ (by omega)) | (go_keep; done)) (by first | assumption | (simp only [frozen?_alloc_cells, hf1_2]; exact frz_past w _ _ (by omega)) | (simp only [frozen?_alloc_cells]; exact frz_past w _ _ (by omega)) | (go_keep; done)) (by first | assumption | (simp only [frozen?_alloc_cells, hf1_2]; exact frz_past w _ _ (by omega)) | (simp only [frozen?_alloc_cells]; exact frz_past w _ _ (by omega)) | (go_keep; done)) (by first | (simp; done) | (simp; omega) | (simp at *; omega)) H1 H2 H3 H4 (by first | (simp; done) | (simp; omega) | (simp at *; omega)) (by first | (simp; done) | (simp; omega) | (simp at *; omega)) (by first | (simp; done) | (simp; omega) | (simp at *; omega)) (by first | (simp; done) | (simp; omega) | (simp at *; omega)) ?_
    rintro w2 ⟨q0, q1, q2, _⟩ hb
    go_wp2
    exact bodyPost_ret (v := .agg #[.int .i64 (ri : Nat), .string (ba' rn), .int .i64 (ro : Nat)]) (by simp [results, Tryd.results24, go_sem, *]) rfl ⟨rfl, hb⟩
end Go.Proofs.YtjpopmgnhgancaaDoor
namespace Go.Proofs.YtjpopmgnhgancaaDoor
open Go.RowKit Go.Lib
set_option maxRecDepth 100000
set_option maxHeartbeats 8000000
theorem sub_t (a b : TT) (ha : GT a) (hb : GT b) (w : World) (hE : TE w) : Calls Tryd.prog 22 #[.agg #[.int .i64 (a.k.i : Nat), .string (ba' a.k.n), .int .i64 (a.o : Nat)], .agg #[.int .i64 (b.k.i : Nat), .string (ba' b.k.n), .int .i64 (b.o : Nat)]] w fun e w' => e = .returned (.bool (subT a b)) ∧ Below w.heap.size w w' := by
  have H1 : Hid (∀ w1, Below w.heap.size w w1 → Calls Tryd.prog 36 #[.agg #[.int .i64 (a.k.i : Nat), .string (ba' a.k.n), .int .i64 (a.o : Nat)]] w1 fun e w' => e = .returned (.agg #[.int .i64 ((cT a).1 : Nat), .int .i64 ((cT a).2 : Nat)]) ∧ Below w1.heap.size w1 w') := Lib.hid fun w1 _ => countOf_t a ha w1
  have H2 : Hid (∀ w1, Below w.heap.size w w1 → Calls Tryd.prog 36 #[.agg #[.int .i64 (b.k.i : Nat), .string (ba' b.k.n), .int .i64 (b.o : Nat)]] w1 fun e w' => e = .returned (.agg #[.int .i64 ((cT b).1 : Nat), .int .i64 ((cT b).2 : Nat)]) ∧ Below w1.heap.size w1 w') := Lib.hid fun w1 _ => countOf_t b hb w1
  have H3 : Hid (∀ w1, Below w.heap.size w w1 → Calls Tryd.prog 35 #[.agg #[.int .i64 ((cT a).1 : Nat), .int .i64 ((cT a).2 : Nat)], .agg #[.int .i64 ((cT b).1 : Nat), .int .i64 ((cT b).2 : Nat)]] w1 fun e w' => e = .returned (.bool (inC (cT a) (cT b))) ∧ Below w1.heap.size w1 w') := Lib.hid fun w1 _ => in_is _ _ _ _ w1
  have H4 : Hid (∀ w1, Below w.heap.size w w1 → Calls Tryd.prog 41 #[.agg #[.int .i64 (a.k.i : Nat), .string (ba' a.k.n), .int .i64 (a.o : Nat)]] w1 fun e w' => e = .returned (.agg #[.int .i64 (a.k.i : Nat), .string (ba' a.k.n)]) ∧ Below w1.heap.size w1 w') := Lib.hid fun w1 _ => kindOf_is _ _ _ w1
  have H5 : Hid (∀ w1, Below w.heap.size w w1 → Calls Tryd.prog 41 #[.agg #[.int .i64 (b.k.i : Nat), .string (ba' b.k.n), .int .i64 (b.o : Nat)]] w1 fun e w' => e = .returned (.agg #[.int .i64 (b.k.i : Nat), .string (ba' b.k.n)]) ∧ Below w1.heap.size w1 w') := Lib.hid fun w1 _ => kindOf_is _ _ _ w1
  have H6 : Hid (∀ w1, Below w.heap.size w w1 → Calls Tryd.prog 42 #[.agg #[.int .i64 (a.k.i : Nat), .string (ba' a.k.n)], .agg #[.int .i64 (b.k.i : Nat), .string (ba' b.k.n)]] w1 fun e w' => e = .returned (.bool (lieB a.k b.k)) ∧ Below w1.heap.size w1 w') := Lib.hid fun w1 hw => lies_is a.k b.k ha.1 w1 (hE.below hw)
  rw [subT]
  obtain ⟨r, hr⟩ : ∃ r, lieB a.k b.k = r := ⟨_, rfl⟩
  obtain ⟨c, hc⟩ : ∃ c, inC (cT a) (cT b) = c := ⟨_, rfl⟩
  rw [hr] at H6 ⊢
  rw [hc] at H3 ⊢
  clear hr hc
  obtain ⟨⟨a0, a1⟩, h⟩ : ∃ c, cT a = c := ⟨_, rfl⟩
  rw [h] at H1 H3
  clear h
  obtain ⟨⟨b0, b1⟩, h⟩ : ∃ c, cT b = c := ⟨_, rfl⟩
  rw [h] at H2 H3
  clear h ha hb hE
  obtain ⟨⟨ai, an⟩, ao⟩ := a
  obtain ⟨⟨bi, bn⟩, bo⟩ := b
  simp only at *
  cases c with
  | true =>
    rw [Bool.true_and]
    go_enter Tryd.func22, Tryd.ntmps22
    go_wp2
    refine Sa_region (w.heap.size) (w.heap.size + 1) ai ao bi bo a0 a1 b0 b1 (ba' an) (ba' bn) r w (by repeat (with_reducible (first | exact Below.refl _ _ | assumption | apply ba | apply bd | apply bdr | (refine bs ?_ (by first | assumption | (simp; done) | (simp; omega))) | (refine bt ?_ (by assumption))))) (by first | assumption | (go_simp; done) | (go_simp; rfl) | (go_keep; done)) (by first | assumption | (go_simp; done) | (go_simp; rfl) | (go_keep; done)) (by first | assumption | (go_simp; done) | (go_simp; rfl) | (go_keep; done)) (by first | assumption | (go_simp; done) | (go_simp; rfl) | (go_keep; done)) (by first | assumption | (go_simp; done) | (go_simp; rfl) | (go_keep; done)) (by first | assumption | (go_simp; done) | (go_simp; rfl) | (go_keep; done)) H1 H2 H3 H4 H5 H6 ?_
    rintro w2 _ hb
    go_wp2
    go_ret
    exact ⟨rfl, hb⟩
  | false =>
    rw [Bool.false_and]
    go_enter Tryd.func22, Tryd.ntmps22
    go_wp2
    refine Sb_region (w.heap.size) (w.heap.size + 1) ai ao bi bo a0 a1 b0 b1 (ba' an) (ba' bn) r w (by repeat (with_reducible (first | exact Below.refl _ _ | assumption | apply ba | apply bd | apply bdr | (refine bs ?_ (by first | assumption | (simp; done) | (simp; omega))) | (refine bt ?_ (by assumption))))) (by first | assumption | (go_simp; done) | (go_simp; rfl) | (go_keep; done)) (by first | assumption | (go_simp; done) | (go_simp; rfl) | (go_keep; done)) (by first | assumption | (go_simp; done) | (go_simp; rfl) | (go_keep; done)) (by first | assumption | (go_simp; done) | (go_simp; rfl) | (go_keep; done)) (by first | assumption | (go_simp; done) | (go_simp; rfl) | (go_keep; done)) (by first | assumption | (go_simp; done) | (go_simp; rfl) | (go_keep; done)) H1 H2 H3 ?_
    rintro w2 _ hb
    go_wp2
    go_ret
    exact ⟨rfl, hb⟩
/-- What a row of types holds, in a block. -/
def TRow (w : World) (g : Nat) (ts : List TT) : Prop := ∀ (j : Nat) (t : TT), ts[j]? = some t → w.cell? ⟨g, j * 3, none⟩ = some (.int .i64 (t.k.i : Nat)) ∧ w.cell? ⟨g, j * 3 + 1, none⟩ = some (.string (ba' t.k.n)) ∧ w.cell? ⟨g, j * 3 + 2, none⟩ = some (.int .i64 (t.o : Nat))
theorem TRow.below {w w' : World} {g : Nat} {ts : List TT} (h : TRow w g ts) (hb : Below w.heap.size w w') : TRow w' g ts := fun j t ht => by
  obtain ⟨h1, h2, h3⟩ := h j t ht
  exact ⟨(hb.cell (p := ⟨g, j * 3, none⟩) (World.block_lt_of_cell? w _ h1)).trans h1, (hb.cell (p := ⟨g, j * 3 + 1, none⟩) (World.block_lt_of_cell? w _ h2)).trans h2, (hb.cell (p := ⟨g, j * 3 + 2, none⟩) (World.block_lt_of_cell? w _ h3)).trans h3⟩
theorem kAll_snoc (ts : List TT) (k : TK) (i : Nat) (t : TT) (h : ts[i]? = some t) : kAll (ts.take (i + 1)) k = withK (kAll (ts.take i) k) t.k := by
  rw [List.take_add_one, h, kAll, List.foldl_append]; rfl
theorem cAll_snoc (f : CTy → CTy → CTy) (ts : List TT) (c : CTy) (i : Nat) (t : TT) (h : ts[i]? = some t) : cAll f (ts.take (i + 1)) c = f (cAll f (ts.take i) c) (cT t) := by
  rw [List.take_add_one, h, cAll, List.foldl_append]; rfl
theorem plus_le : ∀ (ts : List TT) (c : CTy), c.1 ≤ 2 → c.2 ≤ 2 → (cAll plusC ts c).1 ≤ 2 ∧ (cAll plusC ts c).2 ≤ 2
  | [], _c, h1, h2 => ⟨h1, h2⟩
  | _t :: ts, _c, _, _ => plus_le ts _ (Nat.min_le_right _ _) (Nat.min_le_right _ _)
end Go.Proofs.YtjpopmgnhgancaaDoor
namespace Go.Proofs.YtjpopmgnhgancaaDoor
open Go.RowKit Go.Lib
set_option maxRecDepth 100000
set_option maxHeartbeats 8000000
theorem either_t (ts : List TT) (hts : ∀ t ∈ ts, GT t) (n g : Nat) (hn : ts.length = n) (hn9 : n ≤ 1000) (w : World) (hE : TE w) (hR : TRow w g ts) (hg : g < w.heap.size) :
    Calls Tryd.prog 19 #[.slice (some ⟨g, 0, none⟩) n n] w fun e w' => e = .returned (.agg #[.int .i64 ((madeT (kAll ts noK) (cAll orC ts (2, 0))).k.i : Nat), .string (ba' (madeT (kAll ts noK) (cAll orC ts (2, 0))).k.n), .int .i64 ((madeT (kAll ts noK) (cAll orC ts (2, 0))).o : Nat)]) ∧ Below w.heap.size w w' := by
  have HTS := Lib.hid hts
  have HN := Lib.hid hn
  have HEE := Lib.hid hE
  have HRR := Lib.hid hR
  obtain ⟨_, u2, u3⟩ := hE
  obtain ⟨⟨⟨ri, rn⟩, ro⟩, hrr⟩ : ∃ r, madeT (kAll ts noK) (cAll orC ts (2, 0)) = r := ⟨_, rfl⟩
  have HF := Lib.hid hrr
  rw [hrr]
  simp only
  clear hrr
  have hg2 : 2 < w.heap.size := World.block_lt_of_cell? w _ u2
  clear hts hn hR
  go_enter Tryd.func19, Tryd.ntmps19
  go_wp2
  go_loopw [10] (fun s10 wx => ∃ (i : Nat) (k : TK) (c : CTy), s10 = .int .i64 (i : Nat) ∧ i ≤ n ∧ Hid (kAll (ts.take i) noK = k ∧ cAll orC (ts.take i) (2, 0) = c ∧ GK k ∧ c.1 ≤ 2 ∧ c.2 ≤ 2) ∧ wx.cell? ⟨w.heap.size + 1, 0, none⟩ = some (.int .i64 (k.i : Nat)) ∧ wx.cell? ⟨w.heap.size + 1, 1, none⟩ = some (.string (ba' k.n)) ∧ wx.frozen? ⟨w.heap.size + 1, 0, none⟩ = false ∧ wx.frozen? ⟨w.heap.size + 1, 1, none⟩ = false ∧ wx.cell? ⟨w.heap.size + 1 + 1, 0, none⟩ = some (.int .i64 (c.1 : Nat)) ∧ wx.cell? ⟨w.heap.size + 1 + 1, 1, none⟩ = some (.int .i64 (c.2 : Nat)) ∧ wx.frozen? ⟨w.heap.size + 1 + 1, 0, none⟩ = false ∧ wx.frozen? ⟨w.heap.size + 1 + 1, 1, none⟩ = false ∧ wx.cell? ⟨w.heap.size, 0, none⟩ = some (.int .i64 0) ∧ wx.cell? ⟨w.heap.size, 1, none⟩ = some (.string ⟨#[]⟩) ∧ wx.cell? ⟨w.heap.size, 2, none⟩ = some (.int .i64 0) ∧ wx.frozen? ⟨w.heap.size, 0, none⟩ = false ∧ wx.frozen? ⟨w.heap.size, 1, none⟩ = false ∧ wx.frozen? ⟨w.heap.size, 2, none⟩ = false ∧ w.heap.size + 1 + 1 < wx.heap.size ∧ Below w.heap.size w wx) (fun s10 _ => n - (intOf s10).toNat)
  case atStart => exact ⟨0, noK, (2, 0), rfl, Nat.zero_le _, Lib.hid ⟨rfl, rfl, gk_noK, by decide, by decide⟩, (by first | assumption | (go_simp; done) | (go_simp; rfl) | (go_keep; done)), (by first | assumption | (go_simp; done) | (go_simp; rfl) | (go_keep; done)), (by simp only [frozen?_alloc_cells]; exact frz_past w _ _ (by omega)), (by simp only [frozen?_alloc_cells]; exact frz_past w _ _ (by omega)), (by first | assumption | (go_simp; done) | (go_simp; rfl) | (go_keep; done)), (by first | assumption | (go_simp; done) | (go_simp; rfl) | (go_keep; done)), (by simp only [frozen?_alloc_cells]; exact frz_past w _ _ (by omega)), (by simp only [frozen?_alloc_cells]; exact frz_past w _ _ (by omega)), (by first | assumption | (go_simp; done) | (go_simp; rfl) | (go_keep; done)), (by first | assumption | (go_simp; done) | (go_simp; rfl) | (go_keep; done)), (by first | assumption | (go_simp; done) | (go_simp; rfl) | (go_keep; done)), (by simp only [frozen?_alloc_cells]; exact frz_past w _ _ (by omega)), (by simp only [frozen?_alloc_cells]; exact frz_past w _ _ (by omega)), (by simp only [frozen?_alloc_cells]; exact frz_past w _ _ (by omega)), (by first | (simp; done) | (simp; omega) | (simp at *; omega)), (by repeat (with_reducible (first | exact Below.refl _ _ | assumption | apply ba | apply bd | apply bdr | (refine bs ?_ (by first | assumption | (simp; done) | (simp; omega))) | (refine bt ?_ (by assumption)))))⟩
  case round =>
    obtain ⟨i, k, c, rfl, hi, HKC, c0, c1, f0, f1, c2, c3, f2, f3, r0, r1, r2, f4, f5, f6, hz, hB⟩ := hrel
    have HB := Lib.hid hB
    by_cases hlt : i < n
    · have g1 : decide ((i : Int) < (n : Int)) = true := by simp; omega
      have g1' : decide (i < n) = true := by simpa using hlt
      have hw : wrap64 ((i : Int) + 1) = (i : Int) + 1 := by unfold wrap64; omega
      obtain ⟨t, ht⟩ : ∃ t, ts[i]? = some t := ⟨_, List.getElem?_eq_getElem (by rw [HN.out]; exact hlt)⟩
      have htg := HTS.out t (List.mem_of_getElem? ht)
      obtain ⟨d0, d1, d2⟩ := (HRR.out.below hB) i t ht
      have hgx : g < wr.heap.size := by have := hB.size; omega
      have q1 := kAll_snoc ts noK i t ht
      have q2 := cAll_snoc orC ts (2, 0) i t ht
      rw [HKC.out.1] at q1
      rw [HKC.out.2.1] at q2
      have H1 : Hid (∀ w1, Below w.heap.size w w1 → Calls Tryd.prog 41 #[.agg #[.int .i64 (t.k.i : Nat), .string (ba' t.k.n), .int .i64 (t.o : Nat)]] w1 fun e w' => e = .returned (.agg #[.int .i64 (t.k.i : Nat), .string (ba' t.k.n)]) ∧ Below w1.heap.size w1 w') := Lib.hid fun w1 _ => kindOf_is _ _ _ w1
      have H2 : Hid (∀ w1, Below w.heap.size w w1 → Calls Tryd.prog 44 #[.agg #[.int .i64 (k.i : Nat), .string (ba' k.n)], .agg #[.int .i64 (t.k.i : Nat), .string (ba' t.k.n)]] w1 fun e w' => e = .returned (.agg #[.int .i64 ((withK k t.k).i : Nat), .string (ba' (withK k t.k).n)]) ∧ Below w1.heap.size w1 w') := Lib.hid fun w1 hw => with_is k t.k HKC.out.2.2.1 htg.1 w1 (HEE.out.below hw)
      have H3 : Hid (∀ w1, Below w.heap.size w w1 → Calls Tryd.prog 36 #[.agg #[.int .i64 (t.k.i : Nat), .string (ba' t.k.n), .int .i64 (t.o : Nat)]] w1 fun e w' => e = .returned (.agg #[.int .i64 ((cT t).1 : Nat), .int .i64 ((cT t).2 : Nat)]) ∧ Below w1.heap.size w1 w') := Lib.hid fun w1 _ => countOf_t t htg w1
      have H4 : Hid (∀ w1, Below w.heap.size w w1 → Calls Tryd.prog 45 #[.agg #[.int .i64 (c.1 : Nat), .int .i64 (c.2 : Nat)], .agg #[.int .i64 ((cT t).1 : Nat), .int .i64 ((cT t).2 : Nat)]] w1 fun e w' => e = .returned (.agg #[.int .i64 ((orC c (cT t)).1 : Nat), .int .i64 ((orC c (cT t)).2 : Nat)]) ∧ Below w1.heap.size w1 w') := Lib.hid fun w1 _ => or_is _ _ _ _ w1
      have HNX : Hid (kAll (ts.take (i + 1)) noK = withK k t.k ∧ cAll orC (ts.take (i + 1)) (2, 0) = orC c (cT t) ∧ GK (withK k t.k) ∧ (orC c (cT t)).1 ≤ 2 ∧ (orC c (cT t)).2 ≤ 2) := Lib.hid ⟨q1, q2, with_gk HKC.out.2.2.1 htg.1, by have h1 := HKC.out.2.2.2; have h2 := c_le t htg; simp only [orC]; omega, by have h1 := HKC.out.2.2.2; have h2 := c_le t htg; simp only [orC]; omega⟩
      obtain ⟨⟨x0, x1⟩, hx⟩ : ∃ x, orC c (cT t) = x := ⟨_, rfl⟩
      rw [hx] at H4 HNX
      obtain ⟨⟨y0, y1⟩, hy⟩ : ∃ x, cT t = x := ⟨_, rfl⟩
      rw [hy] at H3 H4
      obtain ⟨⟨pi, pn⟩, hr⟩ : ∃ x, withK k t.k = x := ⟨_, rfl⟩
      rw [hr] at H2 HNX
      obtain ⟨⟨ti, tn⟩, to⟩ := t
      obtain ⟨ki, kn⟩ := k
      obtain ⟨u0, u1⟩ := c
      simp only at c0 c1 c2 c3 d0 d1 d2 H1 H2 H3 H4
      clear hx hy hr q1 q2 htg ht hB
      go_wp2
      refine Mo_region (w.heap.size + 1) (w.heap.size + 1 + 1) wr.heap.size (w.heap.size) ki ti to pi u0 u1 y0 y1 x0 x1 (ba' kn) (ba' tn) (ba' pn) 0 w (by have := HB.out; (repeat (with_reducible (first | exact Below.refl _ _ | assumption | apply ba | apply bd | apply bdr | (refine bs ?_ (by first | assumption | (simp; done) | (simp; omega))) | (refine bt ?_ (by assumption)))))) (by first | assumption | (go_simp; done) | (go_simp; rfl) | (go_keep; done)) (by first | assumption | (go_simp; done) | (go_simp; rfl) | (go_keep; done)) (by first | assumption | (go_simp; done) | (go_simp; rfl) | (go_keep; done)) (by first | assumption | (go_simp; done) | (go_simp; rfl) | (go_keep; done)) (by first | assumption | (go_simp; done) | (go_simp; rfl) | (go_keep; done)) (by first | assumption | (go_simp; done) | (go_simp; rfl) | (go_keep; done)) (by first | assumption | (go_simp; done) | (go_simp; rfl) | (go_keep; done)) (by rw [frozen?_alloc_cells]; exact f0) (by rw [frozen?_alloc_cells]; exact f1) (by rw [frozen?_alloc_cells]; exact f2) (by rw [frozen?_alloc_cells]; exact f3) (by first | (simp; done) | (simp; omega) | (simp at *; omega)) (by first | (simp; done) | (simp; omega) | (simp at *; omega)) (by first | (simp; done) | (simp; omega) | (simp at *; omega)) (by first | (simp; done) | (simp; omega) | (simp at *; omega)) (by first | assumption | (go_simp; done) | (go_simp; rfl) | (go_keep; done)) (by first | assumption | (go_simp; done) | (go_simp; rfl) | (go_keep; done)) (by first | assumption | (go_simp; done) | (go_simp; rfl) | (go_keep; done)) (by rw [frozen?_alloc_cells]; exact f4) (by rw [frozen?_alloc_cells]; exact f5) (by rw [frozen?_alloc_cells]; exact f6) H1 H2 H3 H4 (by first | (simp; done) | (simp; omega) | (simp at *; omega)) (by first | (simp; done) | (simp; omega) | (simp at *; omega)) (by first | (simp; done) | (simp; omega) | (simp at *; omega)) (by first | (simp; done) | (simp; omega) | (simp at *; omega)) (by first | (simp; done) | (simp; omega) | (simp at *; omega)) (by first | (simp; done) | (simp; omega) | (simp at *; omega)) (by first | (simp; done) | (simp; omega) | (simp at *; omega)) ?_
      rintro w7 ⟨e0, e1, e2, e3, e4, e5, e6, e7, e8, e9, s0, s1, s2, s3, s4, s5⟩ hb
      clear c0 c1 f0 f1 c2 c3 f2 f3 r0 r1 r2 f4 f5 f6 d0 d1 d2 H1 H2 H3 H4
      go_wp2
      go_roundw
      case measure => simp [intOf]; omega
      case rel => exact ⟨i + 1, ⟨pi, pn⟩, (x0, x1), by simp, by omega, HNX, e0, e1, e4, e5, e2, e3, e6, e7, s0, s1, s2, s3, s4, s5, e9, hb⟩
    · have g1 : decide ((i : Int) < (n : Int)) = false := by simp; omega
      have g1' : decide (i < n) = false := by simpa using hlt
      have hin : i = ts.length := by have := HN.out; omega
      have e1 := HKC.out.1
      have e2 := HKC.out.2.1
      rw [hin, List.take_length] at e1 e2
      have hk := HKC.out.2.2.1
      have hr := HF.out
      rw [e1, e2] at hr
      have H5 := Lib.hid (made_is k c hk wr)
      rw [hr] at H5
      obtain ⟨ki, kn⟩ := k
      obtain ⟨u0, u1⟩ := c
      simp only at c0 c1 c2 c3 H5
      clear hr e1 e2 hk HKC
      go_wp2_with fail
      refine H5.out.mono ?_
      rintro e w7 ⟨rfl, hb⟩
      have q0 := ((bcell hb).1 (w.heap.size) 0 (by omega)).trans r0
      have q1 := ((bcell hb).1 (w.heap.size) 1 (by omega)).trans r1
      have q2 := ((bcell hb).1 (w.heap.size) 2 (by omega)).trans r2
      have q3 := ((bcell hb).2 (w.heap.size) 0 (by omega)).trans f4
      have q4 := ((bcell hb).2 (w.heap.size) 1 (by omega)).trans f5
      have q5 := ((bcell hb).2 (w.heap.size) 2 (by omega)).trans f6
      have HB7 := Lib.hid (bt HB.out hb)
      clear hb c0 c1 f0 f1 c2 c3 f2 f3 r0 r1 r2 f4 f5 f6
      go_wp2
      exact bodyPost_ret (v := .agg #[.int .i64 (ri : Nat), .string (ba' rn), .int .i64 (ro : Nat)]) (by simp [results, Tryd.results19, go_sem, *]) rfl ⟨rfl, bs (bs (bs HB7.out (Nat.le_refl _)) (Nat.le_refl _)) (Nat.le_refl _)⟩
theorem join_t (ts : List TT) (hts : ∀ t ∈ ts, GT t) (n g : Nat) (hn : ts.length = n) (hn9 : n ≤ 1000) (w : World) (hE : TE w) (hR : TRow w g ts) (hg : g < w.heap.size) :
    Calls Tryd.prog 20 #[.slice (some ⟨g, 0, none⟩) n n] w fun e w' => e = .returned (.agg #[.int .i64 ((madeT (kAll ts noK) (cAll plusC ts (0, 0))).k.i : Nat), .string (ba' (madeT (kAll ts noK) (cAll plusC ts (0, 0))).k.n), .int .i64 ((madeT (kAll ts noK) (cAll plusC ts (0, 0))).o : Nat)]) ∧ Below w.heap.size w w' := by
  have HTS := Lib.hid hts
  have HN := Lib.hid hn
  have HEE := Lib.hid hE
  have HRR := Lib.hid hR
  obtain ⟨_, u2, u3⟩ := hE
  obtain ⟨⟨⟨ri, rn⟩, ro⟩, hrr⟩ : ∃ r, madeT (kAll ts noK) (cAll plusC ts (0, 0)) = r := ⟨_, rfl⟩
  have HF := Lib.hid hrr
  rw [hrr]
  simp only
  clear hrr
  have hg2 : 2 < w.heap.size := World.block_lt_of_cell? w _ u2
  clear hts hn hR
  go_enter Tryd.func20, Tryd.ntmps20
  go_wp2_with fail
  refine (exactly0 _).mono ?_
  rintro e w1 ⟨rfl, hb1⟩; have B1 : Below w.heap.size w w1 := (by repeat (with_reducible (first | exact Below.refl _ _ | assumption | apply ba | apply bd | apply bdr | (refine bs ?_ (by first | assumption | (simp; done) | (simp; omega))) | (refine bt ?_ (by assumption))))); have y1 := B1.size; have hc1_0 := fun o => (bcell hb1).1 (w.heap.size) o (by first | (simp; done) | assumption | (simp; omega)); have hf1_0 := fun o => (bcell hb1).2 (w.heap.size) o (by first | (simp; done) | assumption | (simp; omega)); have z1_0 : w.heap.size < w1.heap.size := zz hb1 (by first | (simp; done) | assumption | (simp; omega)); have hc1_1 := fun o => (bcell hb1).1 (w.heap.size + 1) o (by first | (simp; done) | assumption | (simp; omega)); have hf1_1 := fun o => (bcell hb1).2 (w.heap.size + 1) o (by first | (simp; done) | assumption | (simp; omega)); have z1_1 : w.heap.size + 1 < w1.heap.size := zz hb1 (by first | (simp; done) | assumption | (simp; omega))
  go_wp2
  go_loopw [10] (fun s10 wx => ∃ (i : Nat) (k : TK) (c : CTy), s10 = .int .i64 (i : Nat) ∧ i ≤ n ∧ Hid (kAll (ts.take i) noK = k ∧ cAll plusC (ts.take i) (0, 0) = c ∧ GK k ∧ c.1 ≤ 2 ∧ c.2 ≤ 2) ∧ wx.cell? ⟨w.heap.size + 1, 0, none⟩ = some (.int .i64 (k.i : Nat)) ∧ wx.cell? ⟨w.heap.size + 1, 1, none⟩ = some (.string (ba' k.n)) ∧ wx.frozen? ⟨w.heap.size + 1, 0, none⟩ = false ∧ wx.frozen? ⟨w.heap.size + 1, 1, none⟩ = false ∧ wx.cell? ⟨w1.heap.size, 0, none⟩ = some (.int .i64 (c.1 : Nat)) ∧ wx.cell? ⟨w1.heap.size, 1, none⟩ = some (.int .i64 (c.2 : Nat)) ∧ wx.frozen? ⟨w1.heap.size, 0, none⟩ = false ∧ wx.frozen? ⟨w1.heap.size, 1, none⟩ = false ∧ wx.cell? ⟨w.heap.size, 0, none⟩ = some (.int .i64 0) ∧ wx.cell? ⟨w.heap.size, 1, none⟩ = some (.string ⟨#[]⟩) ∧ wx.cell? ⟨w.heap.size, 2, none⟩ = some (.int .i64 0) ∧ wx.frozen? ⟨w.heap.size, 0, none⟩ = false ∧ wx.frozen? ⟨w.heap.size, 1, none⟩ = false ∧ wx.frozen? ⟨w.heap.size, 2, none⟩ = false ∧ w1.heap.size < wx.heap.size ∧ Below w.heap.size w wx) (fun s10 _ => n - (intOf s10).toNat)
  case atStart => exact ⟨0, noK, (0, 0), rfl, Nat.zero_le _, Lib.hid ⟨rfl, rfl, gk_noK, by decide, by decide⟩, (by first | assumption | (go_simp; done) | (go_simp; rfl) | (go_keep; done)), (by first | assumption | (go_simp; done) | (go_simp; rfl) | (go_keep; done)), (by first | (simp only [frozen?_alloc_cells]; exact frz_past w _ _ (by omega)) | (simp only [frozen?_alloc_cells]; exact frz_past w1 _ _ (by omega)) | (simp only [frozen?_alloc_cells]; exact frz_past w _ _ (by omega)) | (simp only [frozen?_alloc_cells, hf1_1]; exact frz_past w _ _ (by omega))), (by first | (simp only [frozen?_alloc_cells]; exact frz_past w _ _ (by omega)) | (simp only [frozen?_alloc_cells]; exact frz_past w1 _ _ (by omega)) | (simp only [frozen?_alloc_cells]; exact frz_past w _ _ (by omega)) | (simp only [frozen?_alloc_cells, hf1_1]; exact frz_past w _ _ (by omega))), (by first | assumption | (go_simp; done) | (go_simp; rfl) | (go_keep; done)), (by first | assumption | (go_simp; done) | (go_simp; rfl) | (go_keep; done)), (by first | (simp only [frozen?_alloc_cells]; exact frz_past w _ _ (by omega)) | (simp only [frozen?_alloc_cells]; exact frz_past w1 _ _ (by omega)) | (simp only [frozen?_alloc_cells, hf1_0]; exact frz_past w _ _ (by omega)) | (simp only [frozen?_alloc_cells, hf1_1]; exact frz_past w _ _ (by omega))), (by first | (simp only [frozen?_alloc_cells]; exact frz_past w _ _ (by omega)) | (simp only [frozen?_alloc_cells]; exact frz_past w1 _ _ (by omega)) | (simp only [frozen?_alloc_cells, hf1_0]; exact frz_past w _ _ (by omega)) | (simp only [frozen?_alloc_cells, hf1_1]; exact frz_past w _ _ (by omega))), (by first | assumption | (go_simp; done) | (go_simp; rfl) | (go_keep; done)), (by first | assumption | (go_simp; done) | (go_simp; rfl) | (go_keep; done)), (by first | assumption | (go_simp; done) | (go_simp; rfl) | (go_keep; done)), (by first | (simp only [frozen?_alloc_cells]; exact frz_past w _ _ (by omega)) | (simp only [frozen?_alloc_cells]; exact frz_past w1 _ _ (by omega)) | (simp only [frozen?_alloc_cells, hf1_0]; exact frz_past w _ _ (by omega)) | (simp only [frozen?_alloc_cells, hf1_1]; exact frz_past w _ _ (by omega))), (by first | (simp only [frozen?_alloc_cells]; exact frz_past w _ _ (by omega)) | (simp only [frozen?_alloc_cells]; exact frz_past w1 _ _ (by omega)) | (simp only [frozen?_alloc_cells, hf1_0]; exact frz_past w _ _ (by omega)) | (simp only [frozen?_alloc_cells, hf1_1]; exact frz_past w _ _ (by omega))), (by first | (simp only [frozen?_alloc_cells]; exact frz_past w _ _ (by omega)) | (simp only [frozen?_alloc_cells]; exact frz_past w1 _ _ (by omega)) | (simp only [frozen?_alloc_cells, hf1_0]; exact frz_past w _ _ (by omega)) | (simp only [frozen?_alloc_cells, hf1_1]; exact frz_past w _ _ (by omega))), (by first | (simp; done) | (simp; omega) | (simp at *; omega)), (by repeat (with_reducible (first | exact Below.refl _ _ | assumption | apply ba | apply bd | apply bdr | (refine bs ?_ (by first | assumption | (simp; done) | (simp; omega))) | (refine bt ?_ (by assumption)))))⟩
  case round =>
    obtain ⟨i, k, c, rfl, hi, HKC, c0, c1, f0, f1, c2, c3, f2, f3, r0, r1, r2, f4, f5, f6, hz, hB⟩ := hrel
    have HB := Lib.hid hB
    by_cases hlt : i < n
    · have g1 : decide ((i : Int) < (n : Int)) = true := by simp; omega
      have g1' : decide (i < n) = true := by simpa using hlt
      have hw : wrap64 ((i : Int) + 1) = (i : Int) + 1 := by unfold wrap64; omega
      obtain ⟨t, ht⟩ : ∃ t, ts[i]? = some t := ⟨_, List.getElem?_eq_getElem (by rw [HN.out]; exact hlt)⟩
      have htg := HTS.out t (List.mem_of_getElem? ht)
      obtain ⟨d0, d1, d2⟩ := (HRR.out.below hB) i t ht
      have hgx : g < wr.heap.size := by have := hB.size; omega
      have q1 := kAll_snoc ts noK i t ht
      have q2 := cAll_snoc plusC ts (0, 0) i t ht
      rw [HKC.out.1] at q1
      rw [HKC.out.2.1] at q2
      have H1 : Hid (∀ w1, Below w.heap.size w w1 → Calls Tryd.prog 41 #[.agg #[.int .i64 (t.k.i : Nat), .string (ba' t.k.n), .int .i64 (t.o : Nat)]] w1 fun e w' => e = .returned (.agg #[.int .i64 (t.k.i : Nat), .string (ba' t.k.n)]) ∧ Below w1.heap.size w1 w') := Lib.hid fun w1 _ => kindOf_is _ _ _ w1
      have H2 : Hid (∀ w1, Below w.heap.size w w1 → Calls Tryd.prog 44 #[.agg #[.int .i64 (k.i : Nat), .string (ba' k.n)], .agg #[.int .i64 (t.k.i : Nat), .string (ba' t.k.n)]] w1 fun e w' => e = .returned (.agg #[.int .i64 ((withK k t.k).i : Nat), .string (ba' (withK k t.k).n)]) ∧ Below w1.heap.size w1 w') := Lib.hid fun w1 hw => with_is k t.k HKC.out.2.2.1 htg.1 w1 (HEE.out.below hw)
      have H3 : Hid (∀ w1, Below w.heap.size w w1 → Calls Tryd.prog 36 #[.agg #[.int .i64 (t.k.i : Nat), .string (ba' t.k.n), .int .i64 (t.o : Nat)]] w1 fun e w' => e = .returned (.agg #[.int .i64 ((cT t).1 : Nat), .int .i64 ((cT t).2 : Nat)]) ∧ Below w1.heap.size w1 w') := Lib.hid fun w1 _ => countOf_t t htg w1
      have H4 : Hid (∀ w1, Below w.heap.size w w1 → Calls Tryd.prog 47 #[.agg #[.int .i64 (c.1 : Nat), .int .i64 (c.2 : Nat)], .agg #[.int .i64 ((cT t).1 : Nat), .int .i64 ((cT t).2 : Nat)]] w1 fun e w' => e = .returned (.agg #[.int .i64 ((plusC c (cT t)).1 : Nat), .int .i64 ((plusC c (cT t)).2 : Nat)]) ∧ Below w1.heap.size w1 w') := Lib.hid fun w1 _ => plus_is _ _ _ _ (by have := HKC.out.2.2.2.1; omega) (by have := HKC.out.2.2.2.2; omega) (by have := (c_le t htg).1; omega) (by have := (c_le t htg).2; omega) w1
      have HNX : Hid (kAll (ts.take (i + 1)) noK = withK k t.k ∧ cAll plusC (ts.take (i + 1)) (0, 0) = plusC c (cT t) ∧ GK (withK k t.k) ∧ (plusC c (cT t)).1 ≤ 2 ∧ (plusC c (cT t)).2 ≤ 2) := Lib.hid ⟨q1, q2, with_gk HKC.out.2.2.1 htg.1, by have h1 := HKC.out.2.2.2; have h2 := c_le t htg; simp only [plusC]; omega, by have h1 := HKC.out.2.2.2; have h2 := c_le t htg; simp only [plusC]; omega⟩
      obtain ⟨⟨x0, x1⟩, hx⟩ : ∃ x, plusC c (cT t) = x := ⟨_, rfl⟩
      rw [hx] at H4 HNX
      obtain ⟨⟨y0, y1⟩, hy⟩ : ∃ x, cT t = x := ⟨_, rfl⟩
      rw [hy] at H3 H4
      obtain ⟨⟨pi, pn⟩, hr⟩ : ∃ x, withK k t.k = x := ⟨_, rfl⟩
      rw [hr] at H2 HNX
      obtain ⟨⟨ti, tn⟩, to⟩ := t
      obtain ⟨ki, kn⟩ := k
      obtain ⟨u0, u1⟩ := c
      simp only at c0 c1 c2 c3 d0 d1 d2 H1 H2 H3 H4
      clear hx hy hr q1 q2 htg ht hB
      go_wp2
      refine Mp_region (w.heap.size + 1) (w1.heap.size) wr.heap.size (w.heap.size) ki ti to pi u0 u1 y0 y1 x0 x1 (ba' kn) (ba' tn) (ba' pn) 0 w (by have := HB.out; (repeat (with_reducible (first | exact Below.refl _ _ | assumption | apply ba | apply bd | apply bdr | (refine bs ?_ (by first | assumption | (simp; done) | (simp; omega))) | (refine bt ?_ (by assumption)))))) (by first | assumption | (go_simp; done) | (go_simp; rfl) | (go_keep; done)) (by first | assumption | (go_simp; done) | (go_simp; rfl) | (go_keep; done)) (by first | assumption | (go_simp; done) | (go_simp; rfl) | (go_keep; done)) (by first | assumption | (go_simp; done) | (go_simp; rfl) | (go_keep; done)) (by first | assumption | (go_simp; done) | (go_simp; rfl) | (go_keep; done)) (by first | assumption | (go_simp; done) | (go_simp; rfl) | (go_keep; done)) (by first | assumption | (go_simp; done) | (go_simp; rfl) | (go_keep; done)) (by rw [frozen?_alloc_cells]; exact f0) (by rw [frozen?_alloc_cells]; exact f1) (by rw [frozen?_alloc_cells]; exact f2) (by rw [frozen?_alloc_cells]; exact f3) (by first | (simp; done) | (simp; omega) | (simp at *; omega)) (by first | (simp; done) | (simp; omega) | (simp at *; omega)) (by first | (simp; done) | (simp; omega) | (simp at *; omega)) (by first | (simp; done) | (simp; omega) | (simp at *; omega)) (by first | assumption | (go_simp; done) | (go_simp; rfl) | (go_keep; done)) (by first | assumption | (go_simp; done) | (go_simp; rfl) | (go_keep; done)) (by first | assumption | (go_simp; done) | (go_simp; rfl) | (go_keep; done)) (by rw [frozen?_alloc_cells]; exact f4) (by rw [frozen?_alloc_cells]; exact f5) (by rw [frozen?_alloc_cells]; exact f6) H1 H2 H3 H4 (by first | (simp; done) | (simp; omega) | (simp at *; omega)) (by first | (simp; done) | (simp; omega) | (simp at *; omega)) (by first | (simp; done) | (simp; omega) | (simp at *; omega)) (by first | (simp; done) | (simp; omega) | (simp at *; omega)) (by first | (simp; done) | (simp; omega) | (simp at *; omega)) (by first | (simp; done) | (simp; omega) | (simp at *; omega)) (by first | (simp; done) | (simp; omega) | (simp at *; omega)) ?_
      rintro w7 ⟨e0, e1, e2, e3, e4, e5, e6, e7, e8, e9, s0, s1, s2, s3, s4, s5⟩ hb
      clear c0 c1 f0 f1 c2 c3 f2 f3 r0 r1 r2 f4 f5 f6 d0 d1 d2 H1 H2 H3 H4
      go_wp2
      go_roundw
      case measure => simp [intOf]; omega
      case rel => exact ⟨i + 1, ⟨pi, pn⟩, (x0, x1), by simp, by omega, HNX, e0, e1, e4, e5, e2, e3, e6, e7, s0, s1, s2, s3, s4, s5, e9, hb⟩
    · have g1 : decide ((i : Int) < (n : Int)) = false := by simp; omega
      have g1' : decide (i < n) = false := by simpa using hlt
      have hin : i = ts.length := by have := HN.out; omega
      have e1 := HKC.out.1
      have e2 := HKC.out.2.1
      rw [hin, List.take_length] at e1 e2
      have hk := HKC.out.2.2.1
      have hr := HF.out
      rw [e1, e2] at hr
      have H5 := Lib.hid (made_is k c hk wr)
      rw [hr] at H5
      obtain ⟨ki, kn⟩ := k
      obtain ⟨u0, u1⟩ := c
      simp only at c0 c1 c2 c3 H5
      clear hr e1 e2 hk HKC
      go_wp2_with fail
      refine H5.out.mono ?_
      rintro e w7 ⟨rfl, hb⟩
      have q0 := ((bcell hb).1 (w.heap.size) 0 (by omega)).trans r0
      have q1 := ((bcell hb).1 (w.heap.size) 1 (by omega)).trans r1
      have q2 := ((bcell hb).1 (w.heap.size) 2 (by omega)).trans r2
      have q3 := ((bcell hb).2 (w.heap.size) 0 (by omega)).trans f4
      have q4 := ((bcell hb).2 (w.heap.size) 1 (by omega)).trans f5
      have q5 := ((bcell hb).2 (w.heap.size) 2 (by omega)).trans f6
      have HB7 := Lib.hid (bt HB.out hb)
      clear hb c0 c1 f0 f1 c2 c3 f2 f3 r0 r1 r2 f4 f5 f6
      go_wp2
      exact bodyPost_ret (v := .agg #[.int .i64 (ri : Nat), .string (ba' rn), .int .i64 (ro : Nat)]) (by simp [results, Tryd.results20, go_sem, *]) rfl ⟨rfl, bs (bs (bs HB7.out (Nat.le_refl _)) (Nat.le_refl _)) (Nat.le_refl _)⟩
end Go.Proofs.YtjpopmgnhgancaaDoor
namespace Go.Proofs.YtjpopmgnhgancaaDoor
open Go.RowKit Go.Lib
set_option maxRecDepth 100000
set_option maxHeartbeats 8000000
theorem integer_is (o : Int) (w : World) : Calls Tryd.prog 11 #[.int .i64 o] w fun e w' => e = .returned (.agg #[.int .i64 1, .string ⟨#[]⟩, .int .i64 o]) ∧ Below w.heap.size w w' := by
  go_enter Tryd.func11, Tryd.ntmps11
  go_wp2
  exact bodyPost_ret (v := .agg #[.int .i64 1, .string ⟨#[]⟩, .int .i64 o]) (by simp [results, Tryd.results11, go_sem, *] <;> first | rfl | omega) rfl ⟨rfl, (by repeat (with_reducible (first | exact Below.refl _ _ | assumption | apply ba | apply bd | apply bdr | (refine bs ?_ (by first | assumption | (simp; done) | (simp; omega))) | (refine bt ?_ (by assumption)))))⟩
theorem gt_lit (i o : Nat) (hi : i ≤ 13) (ho : o ≤ 3) : GT ⟨⟨i, []⟩, o⟩ := ⟨⟨hi, fun h => absurd rfl h⟩, ho⟩
theorem sub_l1 (w : World) (hE : TE w) : Calls Tryd.prog 22 #[.agg #[.int .i64 1, .string ⟨#[]⟩, .int .i64 0], .agg #[.int .i64 2, .string ⟨#[]⟩, .int .i64 1]] w fun e w' => e = .returned (.bool true) ∧ Below w.heap.size w w' :=
  sub_t ⟨⟨1, []⟩, 0⟩ ⟨⟨2, []⟩, 1⟩ (gt_lit _ _ (by decide) (by decide)) (gt_lit _ _ (by decide) (by decide)) w hE
theorem sub_l2 (w : World) (hE : TE w) : Calls Tryd.prog 22 #[.agg #[.int .i64 2, .string ⟨#[]⟩, .int .i64 0], .agg #[.int .i64 1, .string ⟨#[]⟩, .int .i64 0]] w fun e w' => e = .returned (.bool false) ∧ Below w.heap.size w w' :=
  sub_t ⟨⟨2, []⟩, 0⟩ ⟨⟨1, []⟩, 0⟩ (gt_lit _ _ (by decide) (by decide)) (gt_lit _ _ (by decide) (by decide)) w hE
theorem row2 {w : World} {g : Nat} (a b : TT) (h0 : w.cell? ⟨g, 0, none⟩ = some (.int .i64 (a.k.i : Nat))) (h1 : w.cell? ⟨g, 1, none⟩ = some (.string (ba' a.k.n))) (h2 : w.cell? ⟨g, 2, none⟩ = some (.int .i64 (a.o : Nat))) (h3 : w.cell? ⟨g, 3, none⟩ = some (.int .i64 (b.k.i : Nat))) (h4 : w.cell? ⟨g, 4, none⟩ = some (.string (ba' b.k.n))) (h5 : w.cell? ⟨g, 5, none⟩ = some (.int .i64 (b.o : Nat))) : TRow w g [a, b] := by
  intro j t hj
  match j, hj with
  | 0, hj => cases hj; exact ⟨h0, h1, h2⟩
  | 1, hj => cases hj; exact ⟨h3, h4, h5⟩
  | j + 2, hj => simp at hj
theorem gt_two {a b : TT} (ha : GT a) (hb : GT b) : ∀ t ∈ [a, b], GT t := by
  intro t ht
  rcases List.mem_cons.1 ht with rfl | ht
  · exact ha
  · rw [List.mem_singleton.1 ht]; exact hb
theorem join_l (g : Nat) (w : World) (hE : TE w) (hg : g < w.heap.size) (h : ∀ j, j < 6 → w.cell? ⟨g, j, none⟩ = #[.int .i64 1, .string ⟨#[]⟩, .int .i64 0, .int .i64 1, .string ⟨#[]⟩, .int .i64 0][j]?) : Calls Tryd.prog 20 #[.slice (some ⟨g, 0, none⟩) 2 2] w fun e w' => e = .returned (.agg #[.int .i64 1, .string ⟨#[]⟩, .int .i64 2]) ∧ Below w.heap.size w w' :=
  join_t [⟨⟨1, []⟩, 0⟩, ⟨⟨1, []⟩, 0⟩] (gt_two (gt_lit _ _ (by decide) (by decide)) (gt_lit _ _ (by decide) (by decide))) 2 g rfl (by decide) w hE (row2 _ _ (h 0 (by decide)) (h 1 (by decide)) (h 2 (by decide)) (h 3 (by decide)) (h 4 (by decide)) (h 5 (by decide))) hg
theorem either_l (g : Nat) (w : World) (hE : TE w) (hg : g < w.heap.size) (h : ∀ j, j < 6 → w.cell? ⟨g, j, none⟩ = #[.int .i64 1, .string ⟨#[]⟩, .int .i64 0, .int .i64 3, .string ⟨#[]⟩, .int .i64 1][j]?) : Calls Tryd.prog 19 #[.slice (some ⟨g, 0, none⟩) 2 2] w fun e w' => e = .returned (.agg #[.int .i64 6, .string ⟨#[]⟩, .int .i64 1]) ∧ Below w.heap.size w w' :=
  either_t [⟨⟨1, []⟩, 0⟩, ⟨⟨3, []⟩, 1⟩] (gt_two (gt_lit _ _ (by decide) (by decide)) (gt_lit _ _ (by decide) (by decide))) 2 g rfl (by decide) w hE (row2 _ _ (h 0 (by decide)) (h 1 (by decide)) (h 2 (by decide)) (h 3 (by decide)) (h 4 (by decide)) (h 5 (by decide))) hg
theorem awake_any (w : World) (hE : TE w) : Calls Tryd.prog 8 #[] w fun e w' => e = .returned (.bool true) ∧ Below w.heap.size w w' := by
  have HI : Hid (∀ (o : Int) (w1 : World), Calls Tryd.prog 11 #[.int .i64 o] w1 fun e w' => e = .returned (.agg #[.int .i64 1, .string ⟨#[]⟩, .int .i64 o]) ∧ Below w1.heap.size w1 w') := Lib.hid integer_is
  have HEE : Hid (∀ w1, Below w.heap.size w w1 → TE w1) := Lib.hid fun w1 h => hE.below h
  clear hE
  go_enter Tryd.func8, Tryd.ntmps8
  go_wp2_with fail
  refine (HI.out 0 _).mono ?_
  rintro e w1 ⟨rfl, hb1⟩; have B1 : Below w.heap.size w w1 := (by repeat (with_reducible (first | exact Below.refl _ _ | assumption | apply ba | apply bd | apply bdr | (refine bs ?_ (by first | assumption | (simp; done) | (simp; omega))) | (refine bt ?_ (by assumption)))))
  go_wp2_with fail
  refine (sub_l1 _ (HEE.out _ (by repeat (with_reducible (first | exact Below.refl _ _ | assumption | apply ba | apply bd | apply bdr | (refine bs ?_ (by first | assumption | (simp; done) | (simp; omega))) | (refine bt ?_ (by assumption))))))).mono ?_
  rintro e w2 ⟨rfl, hb2⟩; have B2 : Below w.heap.size w w2 := (by repeat (with_reducible (first | exact Below.refl _ _ | assumption | apply ba | apply bd | apply bdr | (refine bs ?_ (by first | assumption | (simp; done) | (simp; omega))) | (refine bt ?_ (by assumption)))))
  go_wp2_with fail
  refine (HI.out 0 _).mono ?_
  rintro e w3 ⟨rfl, hb3⟩; have B3 : Below w.heap.size w w3 := (by repeat (with_reducible (first | exact Below.refl _ _ | assumption | apply ba | apply bd | apply bdr | (refine bs ?_ (by first | assumption | (simp; done) | (simp; omega))) | (refine bt ?_ (by assumption)))))
  go_wp2_with fail
  refine (sub_l2 _ (HEE.out _ (by repeat (with_reducible (first | exact Below.refl _ _ | assumption | apply ba | apply bd | apply bdr | (refine bs ?_ (by first | assumption | (simp; done) | (simp; omega))) | (refine bt ?_ (by assumption))))))).mono ?_
  rintro e w4 ⟨rfl, hb4⟩; have B4 : Below w.heap.size w w4 := (by repeat (with_reducible (first | exact Below.refl _ _ | assumption | apply ba | apply bd | apply bdr | (refine bs ?_ (by first | assumption | (simp; done) | (simp; omega))) | (refine bt ?_ (by assumption)))))
  go_wp2_with fail
  refine (HI.out 0 _).mono ?_
  rintro e w5 ⟨rfl, hb5⟩; have B5 : Below w.heap.size w w5 := (by repeat (with_reducible (first | exact Below.refl _ _ | assumption | apply ba | apply bd | apply bdr | (refine bs ?_ (by first | assumption | (simp; done) | (simp; omega))) | (refine bt ?_ (by assumption)))))
  go_wp2_with fail
  refine (HI.out 0 _).mono ?_
  rintro e w6 ⟨rfl, hb6⟩; have B6 : Below w.heap.size w w6 := (by repeat (with_reducible (first | exact Below.refl _ _ | assumption | apply ba | apply bd | apply bdr | (refine bs ?_ (by first | assumption | (simp; done) | (simp; omega))) | (refine bt ?_ (by assumption)))))
  go_wp2_with fail
  refine (join_l _ _ (HEE.out _ (by repeat (with_reducible (first | exact Below.refl _ _ | assumption | apply ba | apply bd | apply bdr | (refine bs ?_ (by first | assumption | (simp; done) | (simp; omega))) | (refine bt ?_ (by assumption)))))) (by simp) (by intro j hj; rcases (by omega : j = 0 ∨ j = 1 ∨ j = 2 ∨ j = 3 ∨ j = 4 ∨ j = 5) with rfl | rfl | rfl | rfl | rfl | rfl <;> go_simp)).mono ?_
  rintro e w7 ⟨rfl, hb7⟩; have B7 : Below w.heap.size w w7 := (by repeat (with_reducible (first | exact Below.refl _ _ | assumption | apply ba | apply bd | apply bdr | (refine bs ?_ (by first | assumption | (simp; done) | (simp; omega))) | (refine bt ?_ (by assumption)))))
  go_wp2_with fail
  refine (HI.out 2 _).mono ?_
  rintro e w8 ⟨rfl, hb8⟩; have B8 : Below w.heap.size w w8 := (by repeat (with_reducible (first | exact Below.refl _ _ | assumption | apply ba | apply bd | apply bdr | (refine bs ?_ (by first | assumption | (simp; done) | (simp; omega))) | (refine bt ?_ (by assumption)))))
  go_wp2_with fail
  refine (HI.out 0 _).mono ?_
  rintro e w9 ⟨rfl, hb9⟩; have B9 : Below w.heap.size w w9 := (by repeat (with_reducible (first | exact Below.refl _ _ | assumption | apply ba | apply bd | apply bdr | (refine bs ?_ (by first | assumption | (simp; done) | (simp; omega))) | (refine bt ?_ (by assumption)))))
  go_wp2_with fail
  refine (either_l _ _ (HEE.out _ (by repeat (with_reducible (first | exact Below.refl _ _ | assumption | apply ba | apply bd | apply bdr | (refine bs ?_ (by first | assumption | (simp; done) | (simp; omega))) | (refine bt ?_ (by assumption)))))) (by simp) (by intro j hj; rcases (by omega : j = 0 ∨ j = 1 ∨ j = 2 ∨ j = 3 ∨ j = 4 ∨ j = 5) with rfl | rfl | rfl | rfl | rfl | rfl <;> go_simp)).mono ?_
  rintro e w10 ⟨rfl, hb10⟩; have B10 : Below w.heap.size w w10 := (by repeat (with_reducible (first | exact Below.refl _ _ | assumption | apply ba | apply bd | apply bdr | (refine bs ?_ (by first | assumption | (simp; done) | (simp; omega))) | (refine bt ?_ (by assumption)))))
  go_wp2
  go_ret
  exact ⟨rfl, by assumption⟩
end Go.Proofs.YtjpopmgnhgancaaDoor
