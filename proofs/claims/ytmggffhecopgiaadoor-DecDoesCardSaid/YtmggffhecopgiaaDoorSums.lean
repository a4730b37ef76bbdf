/- Package dec adds, subtracts, compares, divides to whole numbers and rests. No condition beyond what the theorems state. -/
import Derived.Test.YtmggffhecopgiaaDoorLevel
namespace Go.Proofs
open Go.Shelf Go.RowKit Go.Proofs.Wide

theorem bkeep {W w1 : World} (hb : Below W.heap.size W w1) : (∀ b o, b < W.heap.size → w1.cell? ⟨b, o, none⟩ = W.cell? ⟨b, o, none⟩) ∧ (∀ b o, b < W.heap.size → w1.frozen? ⟨b, o, none⟩ = W.frozen? ⟨b, o, none⟩) ∧ (∀ n, n < W.heap.size → n < w1.heap.size) ∧ (∀ n, n ≤ W.heap.size → n ≤ w1.heap.size) :=
  ⟨fun b o h => hb.cell (p := ⟨b, o, none⟩) h, fun b o h => hb.frozen (p := ⟨b, o, none⟩) h, fun _ h => Nat.lt_of_lt_of_le h hb.size, fun _ h => Nat.le_trans h hb.size⟩
theorem zz {W w1 : World} {n : Nat} (hb : Below W.heap.size W w1) (h : n < W.heap.size) : n < w1.heap.size := Nat.lt_of_lt_of_le h hb.size
/-- A right number, with its scale as a natural one. -/
theorem rightB_of {n : Int} {k : Nat} (h : RightZ n k) : rightB (n, (k : Int)) = true := by
  obtain ⟨a, b, c, d⟩ := h
  unfold rightB
  simp only [decide_eq_true_eq]
  exact ⟨a, b, by omega, by omega, by omega⟩
theorem nums_two {w : World} {g : Nat} {t : TypeId} (n k m l : Int) (hg : g = w.heap.size) : Nums (w.alloc (.cells #[.int .i64 n, .int .i64 k, .int .i64 m, .int .i64 l] t)) g [(n, k), (m, l)] := by
  subst hg
  intro i p h
  match i, h with
  | 0, h => injection h with h; subst h; simp [World.cell?_alloc_new]
  | 1, h => injection h with h; subst h; simp [World.cell?_alloc_new]
theorem nums_one {w : World} {g : Nat} {t : TypeId} (n k : Int) (hg : g = w.heap.size) : Nums (w.alloc (.cells #[.int .i64 n, .int .i64 k] t)) g [(n, k)] := by
  subst hg
  intro i p h
  match i, h with
  | 0, h => injection h with h; subst h; simp [World.cell?_alloc_new]
theorem right_two (n k m l : Int) (a : InI n) (b : InI k) (c : InI m) (d : InI l) (w : World) (t : TypeId) (g cap : Nat) (hg : g = w.heap.size) :
    Calls Tryd.prog 9 #[.slice (some ⟨g, 0, none⟩) 2 cap] (w.alloc (.cells #[.int .i64 n, .int .i64 k, .int .i64 m, .int .i64 l] t)) fun e w' => e = .returned (.bool (rightB (n, k) && rightB (m, l))) ∧
      Below (w.alloc (.cells #[.int .i64 n, .int .i64 k, .int .i64 m, .int .i64 l] t)).heap.size (w.alloc (.cells #[.int .i64 n, .int .i64 k, .int .i64 m, .int .i64 l] t)) w' := by
  have := right_any g cap [(n, k), (m, l)] (w.alloc (.cells #[.int .i64 n, .int .i64 k, .int .i64 m, .int .i64 l] t)) (by simp; exact ⟨⟨a, b⟩, c, d⟩) (by simp) (nums_two n k m l hg) (by simp; omega)
  simpa using this
theorem right_one (n k : Int) (a : InI n) (b : InI k) (w : World) (t : TypeId) (g cap : Nat) (hg : g = w.heap.size) :
    Calls Tryd.prog 9 #[.slice (some ⟨g, 0, none⟩) 1 cap] (w.alloc (.cells #[.int .i64 n, .int .i64 k] t)) fun e w' => e = .returned (.bool (rightB (n, k))) ∧
      Below (w.alloc (.cells #[.int .i64 n, .int .i64 k] t)).heap.size (w.alloc (.cells #[.int .i64 n, .int .i64 k] t)) w' := by
  have := right_any g cap [(n, k)] (w.alloc (.cells #[.int .i64 n, .int .i64 k] t)) (by simp; exact ⟨a, b⟩) (by simp) (nums_one n k hg) (by simp; omega)
  simpa using this

theorem rz_inI {n : Int} {k : Nat} (h : RightZ n k) : InI n ∧ InI (k : Int) := by
  obtain ⟨a, b, c, d⟩ := h; unfold InI; omega
theorem pow9 (j : Nat) (h : j ≤ 9) : (10 : Int) ^ j ≤ 1000000000 := by
  have a : (10 : Nat) ^ j ≤ 10 ^ 9 := Nat.pow_le_pow_right (by decide) h
  have e : (((10 : Nat) ^ j : Nat) : Int) = 10 ^ j := by simp
  rw [← e]; exact Int.ofNat_le.2 a
theorem mul_bd (n p c d : Int) (hn : -c ≤ n ∧ n ≤ c) (hp : 0 ≤ p ∧ p ≤ d) : -(c * d) ≤ n * p ∧ n * p ≤ c * d := by
  have h1 : n * p ≤ c * p := Int.mul_le_mul_of_nonneg_right hn.2 hp.1
  have h2 : -c * p ≤ n * p := Int.mul_le_mul_of_nonneg_right hn.1 hp.1
  have h3 : c * p ≤ c * d := Int.mul_le_mul_of_nonneg_left hp.2 (by omega)
  rw [Int.neg_mul] at h2
  omega
/-- The two numbers at one scale. -/
def sc (k l : Nat) : Nat := max k l
def lx (n : Int) (k l : Nat) : Int := n * 10 ^ (sc k l - k)
theorem lx_bd (n : Int) (k l : Nat) (h : RightZ n k) (hl : l ≤ 9) : -999999999999999999000000000 ≤ lx n k l ∧ lx n k l ≤ 999999999999999999000000000 := by
  obtain ⟨a, b, c, d⟩ := h
  have e : sc k l - k ≤ 9 := by unfold sc; omega
  have := mul_bd n _ 999999999999999999 1000000000 ⟨a, b⟩ ⟨Int.le_of_lt (ten_pos _), pow9 _ e⟩
  exact this
theorem sc_comm (k l : Nat) : sc k l = sc l k := by unfold sc; omega
theorem level_any (n m : Int) (k l : Nat) (h : RightZ n k) (h' : RightZ m l) (w : World) :
    Calls Tryd.prog 43 #[nv n k, nv m l] w fun e w' => e = .returned (.tuple #[wv (lx n k l), wv (lx m l k), .int .i64 (sc k l : Nat)]) ∧ Below w.heap.size w w' := by
  have hk := h.2.2.1
  have hl := h'.2.2.1
  obtain ⟨i1, i2⟩ := rz_inI h
  obtain ⟨i3, i4⟩ := rz_inI h'
  have e1 : ((sc k l : Nat) : Int) - (k : Int) = ((sc k l - k : Nat) : Int) := by unfold sc; omega
  have e2 : ((sc k l : Nat) : Int) - (l : Int) = ((sc k l - l : Nat) : Int) := by unfold sc; omega
  have s1 : sc k l - k ≤ 9 := by unfold sc; omega
  have s2 : sc k l - l ≤ 9 := by unfold sc; omega
  refine level_core n k m l (sc k l : Nat) (lx n k l) (lx m l k) (10 ^ (sc k l - k)) (10 ^ (sc k l - l)) w (by unfold sc; omega) (by rw [e1]; omega) (by rw [e2]; omega)
    (gives_unfold fun w => wideOf_any n i1.1 i1.2 w) (gives_unfold fun w => by rw [e1]; exact power_any _ (by omega) w) (gives_unfold fun w => times_any n _ w)
    (gives_unfold fun w => wideOf_any m i3.1 i3.2 w) (gives_unfold fun w => by rw [e2]; exact power_any _ (by omega) w) (gives_unfold fun w => ?_)
  unfold lx
  rw [sc_comm l k]
  exact times_any m _ w

def outV (r : Option (Int × Nat)) : Value := .tuple #[.agg #[.int .i64 (outN r), .int .i64 (outK r)], .int .i64 (outE r)]
def addZ (n : Int) (k : Nat) (m : Int) (l : Nat) : Option (Int × Nat) := fitZ (lx n k l + lx m l k) (sc k l)
def subZ (n : Int) (k : Nat) (m : Int) (l : Nat) : Option (Int × Nat) := fitZ (lx n k l - lx m l k) (sc k l)
def mulZ (n : Int) (k : Nat) (m : Int) (l : Nat) : Option (Int × Nat) := fitZ (n * m) (k + l)
def divZ (n : Int) (k : Nat) (m : Int) (l : Nat) : Option (Int × Nat) := fitZ ((n * 10 ^ (9 + l - k)).tdiv m) 9
def idivZ (n : Int) (k : Nat) (m : Int) (l : Nat) : Option (Int × Nat) := fitZ ((lx n k l).tdiv (lx m l k)) 0
def modZ (n : Int) (k : Nat) (m : Int) (l : Nat) : Option (Int × Nat) := fitZ ((lx n k l).tmod (lx m l k)) (sc k l)
def cmpZ (n : Int) (k : Nat) (m : Int) (l : Nat) : Int := if lx n k l < lx m l k then -1 else if lx n k l = lx m l k then 0 else 1
theorem sc_le {n m : Int} {k l : Nat} (h : RightZ n k) (h' : RightZ m l) : sc k l ≤ 9 := by have := h.2.2.1; have := h'.2.2.1; unfold sc; omega
/-- What the calls under a reckoning give. -/
theorem gl {n m : Int} {k l : Nat} (h : RightZ n k) (h' : RightZ m l) : Hid (Gives 43 #[nv n k, nv m l] (.tuple #[wv (lx n k l), wv (lx m l k), .int .i64 (sc k l : Nat)])) := gives_unfold fun w => level_any n m k l h h' w
theorem gf {z : Int} {s : Nat} (h1 : -170141183460469231731687303715884105728 < z) (h2 : z < 170141183460469231731687303715884105728) (hs : s ≤ 18) : Hid (Gives 32 #[wv z, .int .i64 s] (outV (fitZ z s))) := gives_unfold fun w => fit_any z s h1 h2 hs w

set_option maxHeartbeats 2000000 in
theorem add_any (n m : Int) (k l : Nat) (h : RightZ n k) (h' : RightZ m l) (w0 : World) :
    Calls Tryd.prog 18 #[nv n k, nv m l] w0 fun e w' => e = .returned (outV (addZ n k m l)) ∧ Below w0.heap.size w0 w' := by
  obtain ⟨i1, i2⟩ := rz_inI h
  obtain ⟨i3, i4⟩ := rz_inI h'
  have R := fun w t g cap hg => right_two n k m l i1 i2 i3 i4 w t g cap hg
  rw [rightB_of h, rightB_of h'] at R
  have b1 := lx_bd n k l h h'.2.2.1
  have b2 := lx_bd m l k h' h.2.2.1
  have L := gl h h'
  have P : Hid (Gives 44 #[wv (lx n k l), wv (lx m l k)] (wv (lx n k l + lx m l k))) := gives_unfold fun w => plus_any (lx n k l) (lx m l k) w
  have F := gf (z := lx n k l + lx m l k) (s := sc k l) (by omega) (by omega) (by have := sc_le h h'; omega)
  have HR := Lib.hid R
  clear R b1 b2
  unfold addZ
  generalize fitZ (lx n k l + lx m l k) (sc k l) = r at *
  generalize lx n k l + lx m l k = z at *
  generalize lx n k l = x at *
  generalize lx m l k = y at *
  generalize ((sc k l : Nat) : Int) = s at *
  unfold outV at *
  generalize outN r = a at *
  generalize outK r = b at *
  generalize outE r = c at *
  unfold nv wv at *
  clear h h' i1 i2 i3 i4
  go_enter Tryd.func18, Tryd.ntmps18
  go_wp2_with (first
    | (go_at_call 9; refine (HR.out _ _ _ _ (by simp)).mono ?_; rintro e w1 ⟨rfl, hb1⟩; obtain ⟨hc1, hf1⟩ := bcell hb1; have z1 : w0.heap.size + 1 + 1 < w1.heap.size := zz hb1 (by first | assumption | (simp; done) | (simp; omega)); have y1 : w0.heap.size + 1 < w1.heap.size := (by omega); have x1 : w0.heap.size < w1.heap.size := (by omega))
    | (go_at_call 43; refine (L.out.call _).mono ?_; rintro e w2 ⟨rfl, hb2⟩; obtain ⟨hc2, hf2⟩ := bcell hb2; have z2 : w0.heap.size + 1 + 1 < w2.heap.size := zz hb2 (by first | assumption | (simp; done) | (simp; omega)); have y2 : w0.heap.size + 1 < w2.heap.size := (by omega); have x2 : w0.heap.size < w2.heap.size := (by omega))
    | (go_at_call 44; refine (P.out.call _).mono ?_; rintro e w3 ⟨rfl, hb3⟩; obtain ⟨hc3, hf3⟩ := bcell hb3; have z3 : w0.heap.size + 1 + 1 < w3.heap.size := zz hb3 (by first | assumption | (simp; done) | (simp; omega)); have y3 : w0.heap.size + 1 < w3.heap.size := (by omega); have x3 : w0.heap.size < w3.heap.size := (by omega))
    | (go_at_call 32; refine (F.out.call _).mono ?_; rintro e w4 ⟨rfl, hb4⟩; obtain ⟨hc4, hf4⟩ := bcell hb4; have z4 : w0.heap.size + 1 + 1 < w4.heap.size := zz hb4 (by first | assumption | (simp; done) | (simp; omega)); have y4 : w0.heap.size + 1 < w4.heap.size := (by omega); have x4 : w0.heap.size < w4.heap.size := (by omega)))
  exact bodyPost_ret (v := .tuple #[.agg #[.int .i64 a, .int .i64 b], .int .i64 c]) (by simp [results, Tryd.results18, go_sem, *]) rfl ⟨rfl, by repeat (first | exact Below.refl _ _ | apply ba | (refine bs ?_ (by first | (simp; done) | (simp; omega))) | (refine bt ?_ (by assumption)))⟩

set_option maxHeartbeats 2000000 in
theorem sub_any (n m : Int) (k l : Nat) (h : RightZ n k) (h' : RightZ m l) (w0 : World) :
    Calls Tryd.prog 19 #[nv n k, nv m l] w0 fun e w' => e = .returned (outV (subZ n k m l)) ∧ Below w0.heap.size w0 w' := by
  obtain ⟨i1, i2⟩ := rz_inI h
  obtain ⟨i3, i4⟩ := rz_inI h'
  have R := fun w t g cap hg => right_two n k m l i1 i2 i3 i4 w t g cap hg
  rw [rightB_of h, rightB_of h'] at R
  have b1 := lx_bd n k l h h'.2.2.1
  have b2 := lx_bd m l k h' h.2.2.1
  have L := gl h h'
  have P : Hid (Gives 45 #[wv (lx n k l), wv (lx m l k)] (wv (lx n k l - lx m l k))) := gives_unfold fun w => minus_any (lx n k l) (lx m l k) w
  have F := gf (z := lx n k l - lx m l k) (s := sc k l) (by omega) (by omega) (by have := sc_le h h'; omega)
  have HR := Lib.hid R
  clear R b1 b2
  unfold subZ
  generalize fitZ (lx n k l - lx m l k) (sc k l) = r at *
  generalize lx n k l - lx m l k = z at *
  generalize lx n k l = x at *
  generalize lx m l k = y at *
  generalize ((sc k l : Nat) : Int) = s at *
  unfold outV at *
  generalize outN r = a at *
  generalize outK r = b at *
  generalize outE r = c at *
  unfold nv wv at *
  clear h h' i1 i2 i3 i4
  go_enter Tryd.func19, Tryd.ntmps19
  go_wp2_with (first
    | (go_at_call 9; refine (HR.out _ _ _ _ (by simp)).mono ?_; rintro e w1 ⟨rfl, hb1⟩; obtain ⟨hc1, hf1⟩ := bcell hb1; have z1 : w0.heap.size + 1 + 1 < w1.heap.size := zz hb1 (by first | assumption | (simp; done) | (simp; omega)); have y1 : w0.heap.size + 1 < w1.heap.size := (by omega); have x1 : w0.heap.size < w1.heap.size := (by omega))
    | (go_at_call 43; refine (L.out.call _).mono ?_; rintro e w2 ⟨rfl, hb2⟩; obtain ⟨hc2, hf2⟩ := bcell hb2; have z2 : w0.heap.size + 1 + 1 < w2.heap.size := zz hb2 (by first | assumption | (simp; done) | (simp; omega)); have y2 : w0.heap.size + 1 < w2.heap.size := (by omega); have x2 : w0.heap.size < w2.heap.size := (by omega))
    | (go_at_call 45; refine (P.out.call _).mono ?_; rintro e w3 ⟨rfl, hb3⟩; obtain ⟨hc3, hf3⟩ := bcell hb3; have z3 : w0.heap.size + 1 + 1 < w3.heap.size := zz hb3 (by first | assumption | (simp; done) | (simp; omega)); have y3 : w0.heap.size + 1 < w3.heap.size := (by omega); have x3 : w0.heap.size < w3.heap.size := (by omega))
    | (go_at_call 32; refine (F.out.call _).mono ?_; rintro e w4 ⟨rfl, hb4⟩; obtain ⟨hc4, hf4⟩ := bcell hb4; have z4 : w0.heap.size + 1 + 1 < w4.heap.size := zz hb4 (by first | assumption | (simp; done) | (simp; omega)); have y4 : w0.heap.size + 1 < w4.heap.size := (by omega); have x4 : w0.heap.size < w4.heap.size := (by omega)))
  exact bodyPost_ret (v := .tuple #[.agg #[.int .i64 a, .int .i64 b], .int .i64 c]) (by simp [results, Tryd.results19, go_sem, *]) rfl ⟨rfl, by repeat (first | exact Below.refl _ _ | apply ba | (refine bs ?_ (by first | (simp; done) | (simp; omega))) | (refine bt ?_ (by assumption)))⟩

set_option maxHeartbeats 2000000 in
theorem cmp_any (n m : Int) (k l : Nat) (h : RightZ n k) (h' : RightZ m l) (w0 : World) :
    Calls Tryd.prog 25 #[nv n k, nv m l] w0 fun e w' => e = .returned (.int .i64 (cmpZ n k m l)) ∧ Below w0.heap.size w0 w' := by
  obtain ⟨i1, i2⟩ := rz_inI h
  obtain ⟨i3, i4⟩ := rz_inI h'
  have R := fun w t g cap hg => right_two n k m l i1 i2 i3 i4 w t g cap hg
  rw [rightB_of h, rightB_of h'] at R
  have b1 := lx_bd n k l h h'.2.2.1
  have b2 := lx_bd m l k h' h.2.2.1
  have L := gl h h'
  have C : Hid (Gives 54 #[wv (lx n k l), wv (lx m l k)] (.int .i64 (cmpZ n k m l))) := gives_unfold fun w => cmp_lemma (lx n k l) (lx m l k) (by unfold InW; omega) w
  have HR := Lib.hid R
  clear R b1 b2
  generalize cmpZ n k m l = c at *
  generalize lx n k l = x at *
  generalize lx m l k = y at *
  generalize ((sc k l : Nat) : Int) = s at *
  unfold nv wv at *
  clear h h' i1 i2 i3 i4
  go_enter Tryd.func25, Tryd.ntmps25
  go_wp2_with (first
    | (go_at_call 9; refine (HR.out _ _ _ _ (by simp)).mono ?_; rintro e w1 ⟨rfl, hb1⟩; obtain ⟨hc1, hf1⟩ := bcell hb1; have z1 : w0.heap.size + 1 + 1 < w1.heap.size := zz hb1 (by first | assumption | (simp; done) | (simp; omega)); have y1 : w0.heap.size + 1 < w1.heap.size := (by omega); have x1 : w0.heap.size < w1.heap.size := (by omega))
    | (go_at_call 43; refine (L.out.call _).mono ?_; rintro e w2 ⟨rfl, hb2⟩; obtain ⟨hc2, hf2⟩ := bcell hb2; have z2 : w0.heap.size + 1 + 1 < w2.heap.size := zz hb2 (by first | assumption | (simp; done) | (simp; omega)); have y2 : w0.heap.size + 1 < w2.heap.size := (by omega); have x2 : w0.heap.size < w2.heap.size := (by omega))
    | (go_at_call 54; refine (C.out.call _).mono ?_; rintro e w3 ⟨rfl, hb3⟩; obtain ⟨hc3, hf3⟩ := bcell hb3; have z3 : w0.heap.size + 1 + 1 < w3.heap.size := zz hb3 (by first | assumption | (simp; done) | (simp; omega)); have y3 : w0.heap.size + 1 < w3.heap.size := (by omega); have x3 : w0.heap.size < w3.heap.size := (by omega)))
  go_ret
  exact ⟨rfl, by repeat (first | exact Below.refl _ _ | apply ba | (refine bs ?_ (by first | (simp; done) | (simp; omega))) | (refine bt ?_ (by assumption)))⟩

set_option maxHeartbeats 2000000 in
theorem divisor_zero (n m : Int) (k l : Nat) (h : RightZ n k) (h' : RightZ m l) (hm : m = 0) (w0 : World) :
    Calls Tryd.prog 47 #[nv n k, nv m l] w0 fun e w' => e = .returned (.int .i64 52) ∧ Below w0.heap.size w0 w' := by
  obtain ⟨i1, i2⟩ := rz_inI h
  obtain ⟨i3, i4⟩ := rz_inI h'
  have R := fun w t g cap hg => right_two n k m l i1 i2 i3 i4 w t g cap hg
  rw [rightB_of h, rightB_of h'] at R
  have HR := Lib.hid R
  subst hm
  clear R h h' i1 i2 i3 i4
  unfold nv at *
  go_enter Tryd.func47, Tryd.ntmps47
  go_wp2_with (first
    | (go_at_call 9; refine (HR.out _ _ _ _ (by simp)).mono ?_; rintro e w1 ⟨rfl, hb1⟩; obtain ⟨hc1, hf1⟩ := bcell hb1; have z1 : w0.heap.size + 1 + 1 < w1.heap.size := zz hb1 (by first | assumption | (simp; done) | (simp; omega)); have y1 : w0.heap.size + 1 < w1.heap.size := (by omega); have x1 : w0.heap.size < w1.heap.size := (by omega)))
  go_ret
  exact ⟨rfl, by repeat (first | exact Below.refl _ _ | apply ba | (refine bs ?_ (by first | (simp; done) | (simp; omega))) | (refine bt ?_ (by assumption)))⟩

set_option maxHeartbeats 2000000 in
theorem divisor_ok (n m : Int) (k l : Nat) (h : RightZ n k) (h' : RightZ m l) (hm : m ≠ 0) (w0 : World) :
    Calls Tryd.prog 47 #[nv n k, nv m l] w0 fun e w' => e = .returned (.int .i64 0) ∧ Below w0.heap.size w0 w' := by
  obtain ⟨i1, i2⟩ := rz_inI h
  obtain ⟨i3, i4⟩ := rz_inI h'
  have R := fun w t g cap hg => right_two n k m l i1 i2 i3 i4 w t g cap hg
  rw [rightB_of h, rightB_of h'] at R
  have HR := Lib.hid R
  have hm0 : ¬ m = 0 := hm
  clear R h h' i1 i2 i3 i4
  unfold nv at *
  go_enter Tryd.func47, Tryd.ntmps47
  go_wp2_with (first
    | (go_at_call 9; refine (HR.out _ _ _ _ (by simp)).mono ?_; rintro e w1 ⟨rfl, hb1⟩; obtain ⟨hc1, hf1⟩ := bcell hb1; have z1 : w0.heap.size + 1 + 1 < w1.heap.size := zz hb1 (by first | assumption | (simp; done) | (simp; omega)); have y1 : w0.heap.size + 1 < w1.heap.size := (by omega); have x1 : w0.heap.size < w1.heap.size := (by omega)))
  go_ret
  exact ⟨rfl, by repeat (first | exact Below.refl _ _ | apply ba | (refine bs ?_ (by first | (simp; done) | (simp; omega))) | (refine bt ?_ (by assumption)))⟩

set_option maxHeartbeats 2000000 in
theorem div_zero (n : Int) (k l : Nat) (h : RightZ n k) (h' : RightZ 0 l) (w0 : World) :
    Calls Tryd.prog 21 #[nv n k, nv 0 l] w0 fun e w' => e = .returned (.tuple #[.agg #[.int .i64 0, .int .i64 0], .int .i64 52]) ∧ Below w0.heap.size w0 w' := by
  have D : Hid (Gives 47 #[nv n k, nv 0 l] (.int .i64 52)) := gives_unfold fun w => divisor_zero n 0 k l h h' rfl w
  clear h h'
  unfold nv at *
  go_enter Tryd.func21, Tryd.ntmps21
  go_wp2_with (first
    | (go_at_call 47; refine (D.out.call _).mono ?_; rintro e w1 ⟨rfl, hb1⟩; obtain ⟨hc1, hf1⟩ := bcell hb1; have z1 : w0.heap.size + 1 + 1 < w1.heap.size := zz hb1 (by first | assumption | (simp; done) | (simp; omega)); have y1 : w0.heap.size + 1 < w1.heap.size := (by omega); have x1 : w0.heap.size < w1.heap.size := (by omega)))
  exact bodyPost_ret (v := .tuple #[.agg #[.int .i64 0, .int .i64 0], .int .i64 52]) (by simp [results, Tryd.results21, go_sem, *]) rfl ⟨rfl, by repeat (first | exact Below.refl _ _ | apply ba | (refine bs ?_ (by first | (simp; done) | (simp; omega))) | (refine bt ?_ (by assumption)))⟩

set_option maxHeartbeats 2000000 in
theorem idiv_zero (n : Int) (k l : Nat) (h : RightZ n k) (h' : RightZ 0 l) (w0 : World) :
    Calls Tryd.prog 22 #[nv n k, nv 0 l] w0 fun e w' => e = .returned (.tuple #[.agg #[.int .i64 0, .int .i64 0], .int .i64 52]) ∧ Below w0.heap.size w0 w' := by
  have D : Hid (Gives 47 #[nv n k, nv 0 l] (.int .i64 52)) := gives_unfold fun w => divisor_zero n 0 k l h h' rfl w
  clear h h'
  unfold nv at *
  go_enter Tryd.func22, Tryd.ntmps22
  go_wp2_with (first
    | (go_at_call 47; refine (D.out.call _).mono ?_; rintro e w1 ⟨rfl, hb1⟩; obtain ⟨hc1, hf1⟩ := bcell hb1; have z1 : w0.heap.size + 1 + 1 < w1.heap.size := zz hb1 (by first | assumption | (simp; done) | (simp; omega)); have y1 : w0.heap.size + 1 < w1.heap.size := (by omega); have x1 : w0.heap.size < w1.heap.size := (by omega)))
  exact bodyPost_ret (v := .tuple #[.agg #[.int .i64 0, .int .i64 0], .int .i64 52]) (by simp [results, Tryd.results22, go_sem, *]) rfl ⟨rfl, by repeat (first | exact Below.refl _ _ | apply ba | (refine bs ?_ (by first | (simp; done) | (simp; omega))) | (refine bt ?_ (by assumption)))⟩

set_option maxHeartbeats 2000000 in
theorem mod_zero (n : Int) (k l : Nat) (h : RightZ n k) (h' : RightZ 0 l) (w0 : World) :
    Calls Tryd.prog 23 #[nv n k, nv 0 l] w0 fun e w' => e = .returned (.tuple #[.agg #[.int .i64 0, .int .i64 0], .int .i64 52]) ∧ Below w0.heap.size w0 w' := by
  have D : Hid (Gives 47 #[nv n k, nv 0 l] (.int .i64 52)) := gives_unfold fun w => divisor_zero n 0 k l h h' rfl w
  clear h h'
  unfold nv at *
  go_enter Tryd.func23, Tryd.ntmps23
  go_wp2_with (first
    | (go_at_call 47; refine (D.out.call _).mono ?_; rintro e w1 ⟨rfl, hb1⟩; obtain ⟨hc1, hf1⟩ := bcell hb1; have z1 : w0.heap.size + 1 + 1 < w1.heap.size := zz hb1 (by first | assumption | (simp; done) | (simp; omega)); have y1 : w0.heap.size + 1 < w1.heap.size := (by omega); have x1 : w0.heap.size < w1.heap.size := (by omega)))
  exact bodyPost_ret (v := .tuple #[.agg #[.int .i64 0, .int .i64 0], .int .i64 52]) (by simp [results, Tryd.results23, go_sem, *]) rfl ⟨rfl, by repeat (first | exact Below.refl _ _ | apply ba | (refine bs ?_ (by first | (simp; done) | (simp; omega))) | (refine bt ?_ (by assumption)))⟩

/-- A pair at one scale may be divided: of the two one is no longer than an int. -/
theorem lx_div (n m : Int) (k l : Nat) (h : RightZ n k) (h' : RightZ m l) (hm : m ≠ 0) : lx m l k ≠ 0 ∧
    ((-18446744073709551616 < lx m l k ∧ lx m l k < 18446744073709551616) ∨ (if lx n k l < 0 then -lx n k l else lx n k l) < (if lx m l k < 0 then -lx m l k else lx m l k)) ∧
    (-999999999999999999000000000 ≤ (lx n k l).tdiv (lx m l k) ∧ (lx n k l).tdiv (lx m l k) ≤ 999999999999999999000000000) ∧ (-999999999999999999 ≤ (lx n k l).tmod (lx m l k) ∧ (lx n k l).tmod (lx m l k) ≤ 999999999999999999) := by
  have b1 := lx_bd n k l h h'.2.2.1
  have b2 := lx_bd m l k h' h.2.2.1
  have hy : lx m l k ≠ 0 := by
    unfold lx; intro e
    rcases Int.mul_eq_zero.1 e with e | e
    · exact hm e
    · exact absurd e (Int.ne_of_gt (ten_pos _))
  obtain ⟨e1, e2⟩ := tdiv_size (lx n k l) (lx m l k) hy
  obtain ⟨a1, a2, _, _⟩ := h
  obtain ⟨c1, c2, _, _⟩ := h'
  have key : lx n k l = n ∨ lx m l k = m := by
    unfold lx sc
    by_cases hkl : k ≤ l
    · right; rw [show max l k - l = 0 by omega]; simp
    · left; rw [show max k l - k = 0 by omega]; simp
  have big : lx m l k = m ∨ lx n k l = n := key.symm
  generalize lx n k l = x at *
  generalize lx m l k = y at *
  rw [← e1, ← e2]
  have mb : ∀ u v : Int, 0 ≤ u → 0 < v → 0 ≤ u / v ∧ u / v ≤ u ∧ 0 ≤ u % v ∧ u % v < v ∧ u % v ≤ u := fun u v hu hv =>
    ⟨Int.ediv_nonneg hu (by omega), Int.ediv_le_self _ hu, Int.emod_nonneg _ (by omega), Int.emod_lt_of_pos _ hv, by
      have := Int.mul_ediv_add_emod u v
      have := Int.mul_nonneg (Int.le_of_lt hv) (Int.ediv_nonneg hu (Int.le_of_lt hv))
      omega⟩
  have hb := mb (if x < 0 then -x else x) (if y < 0 then -y else y) (by split <;> omega) (by split <;> omega)
  have hs : ∀ (c : Bool) (z : Int), (if c = true then -z else z) = z ∨ (if c = true then -z else z) = -z := fun c z => by cases c <;> simp
  have h1 := hs ((decide (x < 0)) != (decide (y < 0))) ((if x < 0 then -x else x) / (if y < 0 then -y else y))
  have h2 := hs (decide (x < 0)) ((if x < 0 then -x else x) % (if y < 0 then -y else y))
  have ax : (if x < 0 then -x else x) ≤ 999999999999999999000000000 := by split <;> omega
  have axy : (if x < 0 then -x else x) ≤ 999999999999999999 ∨ (if y < 0 then -y else y) ≤ 999999999999999999 := by
    rcases key with e | e
    · left; split <;> omega
    · right; split <;> omega
  have sy : (-18446744073709551616 < y ∧ y < 18446744073709551616) ∨ (if x < 0 then -x else x) < (if y < 0 then -y else y) := by
    rcases axy with e | e
    · by_cases hc : -18446744073709551616 < y ∧ y < 18446744073709551616
      · exact .inl hc
      · right
        have : 18446744073709551616 ≤ (if y < 0 then -y else y) := by split <;> omega
        omega
    · left
      by_cases hn : y < 0
      · rw [if_pos hn] at e; omega
      · rw [if_neg hn] at e; omega
  refine ⟨hy, sy, ?_, ?_⟩
  · generalize (if x < 0 then -x else x) = ux at *
    generalize (if y < 0 then -y else y) = uy at *
    omega
  · generalize (if x < 0 then -x else x) = ux at *
    generalize (if y < 0 then -y else y) = uy at *
    omega

set_option maxHeartbeats 4000000 in
theorem idiv_any (n m : Int) (k l : Nat) (h : RightZ n k) (h' : RightZ m l) (hm : m ≠ 0) (w0 : World) :
    Calls Tryd.prog 22 #[nv n k, nv m l] w0 fun e w' => e = .returned (outV (idivZ n k m l)) ∧ Below w0.heap.size w0 w' := by
  have V : Hid (Gives 47 #[nv n k, nv m l] (.int .i64 0)) := gives_unfold fun w => divisor_ok n m k l h h' hm w
  have b1 := lx_bd n k l h h'.2.2.1
  have b2 := lx_bd m l k h' h.2.2.1
  have dv := lx_div n m k l h h' hm
  have L := gl h h'
  have D : Hid (Gives 49 #[wv (lx n k l), wv (lx m l k)] (.tuple #[wv ((lx n k l).tdiv (lx m l k)), wv ((lx n k l).tmod (lx m l k))])) := gives_unfold fun w => divided_any (lx n k l) (lx m l k) (by omega) (by omega) (by omega) (by omega) dv.1 dv.2.1 w
  have F := gf (z := (lx n k l).tdiv (lx m l k)) (s := 0) (by omega) (by omega) (by decide)
  clear b1 b2 dv
  unfold idivZ
  generalize fitZ ((lx n k l).tdiv (lx m l k)) (0) = r at *
  generalize (lx n k l).tdiv (lx m l k) = q at *
  generalize (lx n k l).tmod (lx m l k) = d at *
  generalize lx n k l = x at *
  generalize lx m l k = y at *
  generalize ((sc k l : Nat) : Int) = s at *
  unfold outV at *
  generalize outN r = a at *
  generalize outK r = b at *
  generalize outE r = c at *
  rw [show ((0 : Nat) : Int) = 0 from rfl] at F
  unfold nv wv at *
  clear h h' hm
  go_enter Tryd.func22, Tryd.ntmps22
  go_wp2_with (first
    | (go_at_call 47; refine (V.out.call _).mono ?_; rintro e w1 ⟨rfl, hb1⟩; obtain ⟨hc1, hf1⟩ := bcell hb1; have z1 : w0.heap.size + 1 + 1 < w1.heap.size := zz hb1 (by first | assumption | (simp; done) | (simp; omega)); have y1 : w0.heap.size + 1 < w1.heap.size := (by omega); have x1 : w0.heap.size < w1.heap.size := (by omega))
    | (go_at_call 43; refine (L.out.call _).mono ?_; rintro e w2 ⟨rfl, hb2⟩; obtain ⟨hc2, hf2⟩ := bcell hb2; have z2 : w0.heap.size + 1 + 1 < w2.heap.size := zz hb2 (by first | assumption | (simp; done) | (simp; omega)); have y2 : w0.heap.size + 1 < w2.heap.size := (by omega); have x2 : w0.heap.size < w2.heap.size := (by omega))
    | (go_at_call 49; refine (D.out.call _).mono ?_; rintro e w3 ⟨rfl, hb3⟩; obtain ⟨hc3, hf3⟩ := bcell hb3; have z3 : w0.heap.size + 1 + 1 < w3.heap.size := zz hb3 (by first | assumption | (simp; done) | (simp; omega)); have y3 : w0.heap.size + 1 < w3.heap.size := (by omega); have x3 : w0.heap.size < w3.heap.size := (by omega))
    | (go_at_call 32; refine (F.out.call _).mono ?_; rintro e w4 ⟨rfl, hb4⟩; obtain ⟨hc4, hf4⟩ := bcell hb4; have z4 : w0.heap.size + 1 + 1 < w4.heap.size := zz hb4 (by first | assumption | (simp; done) | (simp; omega)); have y4 : w0.heap.size + 1 < w4.heap.size := (by omega); have x4 : w0.heap.size < w4.heap.size := (by omega)))
  exact bodyPost_ret (v := .tuple #[.agg #[.int .i64 a, .int .i64 b], .int .i64 c]) (by simp [results, Tryd.results22, go_sem, *]) rfl ⟨rfl, by repeat (first | exact Below.refl _ _ | apply ba | (refine bs ?_ (by first | (simp; done) | (simp; omega))) | (refine bt ?_ (by assumption)))⟩

set_option maxHeartbeats 4000000 in
theorem mod_any (n m : Int) (k l : Nat) (h : RightZ n k) (h' : RightZ m l) (hm : m ≠ 0) (w0 : World) :
    Calls Tryd.prog 23 #[nv n k, nv m l] w0 fun e w' => e = .returned (outV (modZ n k m l)) ∧ Below w0.heap.size w0 w' := by
  have V : Hid (Gives 47 #[nv n k, nv m l] (.int .i64 0)) := gives_unfold fun w => divisor_ok n m k l h h' hm w
  have b1 := lx_bd n k l h h'.2.2.1
  have b2 := lx_bd m l k h' h.2.2.1
  have dv := lx_div n m k l h h' hm
  have L := gl h h'
  have D : Hid (Gives 49 #[wv (lx n k l), wv (lx m l k)] (.tuple #[wv ((lx n k l).tdiv (lx m l k)), wv ((lx n k l).tmod (lx m l k))])) := gives_unfold fun w => divided_any (lx n k l) (lx m l k) (by omega) (by omega) (by omega) (by omega) dv.1 dv.2.1 w
  have F := gf (z := (lx n k l).tmod (lx m l k)) (s := sc k l) (by omega) (by omega) (by have := sc_le h h'; omega)
  clear b1 b2 dv
  unfold modZ
  generalize fitZ ((lx n k l).tmod (lx m l k)) (sc k l) = r at *
  generalize (lx n k l).tdiv (lx m l k) = q at *
  generalize (lx n k l).tmod (lx m l k) = d at *
  generalize lx n k l = x at *
  generalize lx m l k = y at *
  generalize ((sc k l : Nat) : Int) = s at *
  unfold outV at *
  generalize outN r = a at *
  generalize outK r = b at *
  generalize outE r = c at *
  skip
  unfold nv wv at *
  clear h h' hm
  go_enter Tryd.func23, Tryd.ntmps23
  go_wp2_with (first
    | (go_at_call 47; refine (V.out.call _).mono ?_; rintro e w1 ⟨rfl, hb1⟩; obtain ⟨hc1, hf1⟩ := bcell hb1; have z1 : w0.heap.size + 1 + 1 < w1.heap.size := zz hb1 (by first | assumption | (simp; done) | (simp; omega)); have y1 : w0.heap.size + 1 < w1.heap.size := (by omega); have x1 : w0.heap.size < w1.heap.size := (by omega))
    | (go_at_call 43; refine (L.out.call _).mono ?_; rintro e w2 ⟨rfl, hb2⟩; obtain ⟨hc2, hf2⟩ := bcell hb2; have z2 : w0.heap.size + 1 + 1 < w2.heap.size := zz hb2 (by first | assumption | (simp; done) | (simp; omega)); have y2 : w0.heap.size + 1 < w2.heap.size := (by omega); have x2 : w0.heap.size < w2.heap.size := (by omega))
    | (go_at_call 49; refine (D.out.call _).mono ?_; rintro e w3 ⟨rfl, hb3⟩; obtain ⟨hc3, hf3⟩ := bcell hb3; have z3 : w0.heap.size + 1 + 1 < w3.heap.size := zz hb3 (by first | assumption | (simp; done) | (simp; omega)); have y3 : w0.heap.size + 1 < w3.heap.size := (by omega); have x3 : w0.heap.size < w3.heap.size := (by omega))
    | (go_at_call 32; refine (F.out.call _).mono ?_; rintro e w4 ⟨rfl, hb4⟩; obtain ⟨hc4, hf4⟩ := bcell hb4; have z4 : w0.heap.size + 1 + 1 < w4.heap.size := zz hb4 (by first | assumption | (simp; done) | (simp; omega)); have y4 : w0.heap.size + 1 < w4.heap.size := (by omega); have x4 : w0.heap.size < w4.heap.size := (by omega)))
  exact bodyPost_ret (v := .tuple #[.agg #[.int .i64 a, .int .i64 b], .int .i64 c]) (by simp [results, Tryd.results23, go_sem, *]) rfl ⟨rfl, by repeat (first | exact Below.refl _ _ | apply ba | (refine bs ?_ (by first | (simp; done) | (simp; omega))) | (refine bt ?_ (by assumption)))⟩
end Go.Proofs
