/- What the reference does with two numbers, but for the quotient. No condition beyond what the theorems state. -/
import Derived.Test.YtmggffhecopgiaaDoorRefSum
namespace Go.Proofs
open Go.Shelf Go.RowKit Go.Proofs.Wide Go.Proofs.Dig
/-- The digits of a whole number, some noughts ahead of the lowest. -/
def upD (n : Int) (i : Nat) : List Int := upL (digs n.natAbs) i
theorem lt_ge (n : Int) : n < 0 ∨ 0 ≤ n := by omega
theorem sg_abs (n : Int) : sg (decide (n < 0)) (n.natAbs : Int) = n := by
  unfold sg
  by_cases h : n < 0
  · rw [if_pos (by simpa using h)]; omega
  · rw [if_neg (by simpa using h)]; omega
theorem sg_mulp (b : Bool) (x p : Int) : sg b (x * p) = sg b x * p := by
  unfold sg
  split
  · rw [Int.neg_mul]
  · rfl
theorem sg_not (b : Bool) (x : Int) : sg (!b) x = -sg b x := by cases b <;> simp [sg]
theorem sg_zero (b : Bool) : sg b 0 = 0 := by cases b <;> rfl
theorem upD_spec (n : Int) (i : Nat) : Canon (upD n i) ∧ val (upD n i) = n.natAbs * 10 ^ i ∧ (upD n i).length ≤ i + (digs n.natAbs).length := by
  obtain ⟨h1, h2, h3⟩ := upL_spec (digs n.natAbs) i (digs_canon _)
  refine ⟨h1, ?_, h3⟩
  unfold upD
  rw [h2, (digs_val _).1, Int.mul_comm]
theorem upD_sg (n : Int) (i : Nat) : sg (decide (n < 0)) (val (upD n i)) = n * 10 ^ i := by
  rw [(upD_spec n i).2.1, sg_mulp, sg_abs]
theorem digs_len {n : Int} (h1 : -999999999999999999 ≤ n) (h2 : n ≤ 999999999999999999) : (digs n.natAbs).length ≤ 18 := digs_len_lt (by
  show ((n.natAbs : Nat) : Int) < 1000000000000000000
  omega)
theorem digs_int {x : Int} (h : 0 ≤ x) : val (digs x.toNat) = x := by rw [(digs_val _).1]; omega
theorem add_big (na nb : Bool) (a b : List Int) (ha : Canon a) (hb : Canon b) : Canon (addB na nb a b).2 ∧ sg (addB na nb a b).1 (val (addB na nb a b).2) = sg na (val a) + sg nb (val b) := by
  have h1 := val_nonneg a ha.1
  have h2 := val_nonneg b hb.1
  unfold addB
  by_cases h : na = nb
  · subst h
    rw [if_pos rfl]
    refine ⟨digs_canon _, ?_⟩
    rw [digs_int (by omega)]
    unfold sg; split <;> omega
  · rw [if_neg h]
    by_cases h3 : val b ≤ val a
    · rw [if_pos h3]
      refine ⟨digs_canon _, ?_⟩
      rw [digs_int (by omega)]
      cases na <;> cases nb <;> simp [sg] at h ⊢ <;> omega
    · rw [if_neg h3]
      refine ⟨digs_canon _, ?_⟩
      rw [digs_int (by omega)]
      cases na <;> cases nb <;> simp [sg] at h ⊢ <;> omega
theorem add_len (na nb : Bool) (a b : List Int) (ha : Canon a) (hb : Canon b) (m : Nat) (hla : a.length ≤ m) (hlb : b.length ≤ m) : (addB na nb a b).2.length ≤ m + 1 := by
  have h1 := val_nonneg a ha.1
  have h2 := val_nonneg b hb.1
  have h3 := val_lt a ha.1
  have h4 := val_lt b hb.1
  have h5 := pow10_le hla
  have h6 := pow10_le hlb
  have h7 : (10 : Int) ^ (m + 1) = 10 ^ m * 10 := Int.pow_succ ..
  unfold addB
  split
  · exact digs_len_lt (by omega)
  · split
    · exact digs_len_lt (by omega)
    · exact digs_len_lt (by omega)
theorem do_add {n m : Int} {k l : Nat} : fitZ (sg (addB (decide (n < 0)) (decide (m < 0)) (upD n (sc k l - k)) (upD m (sc k l - l))).1 (val (addB (decide (n < 0)) (decide (m < 0)) (upD n (sc k l - k)) (upD m (sc k l - l))).2)) (sc k l) = addZ n k m l := by
  rw [(add_big _ _ _ _ (upD_spec n _).1 (upD_spec m _).1).2, upD_sg, upD_sg]
  unfold addZ lx
  rw [sc_comm l k]
theorem do_sub {n m : Int} {k l : Nat} : fitZ (sg (addB (decide (n < 0)) (!decide (m < 0)) (upD n (sc k l - k)) (upD m (sc k l - l))).1 (val (addB (decide (n < 0)) (!decide (m < 0)) (upD n (sc k l - k)) (upD m (sc k l - l))).2)) (sc k l) = subZ n k m l := by
  rw [(add_big _ _ _ _ (upD_spec n _).1 (upD_spec m _).1).2, sg_not, upD_sg, upD_sg]
  unfold subZ lx
  rw [sc_comm l k, Int.sub_eq_add_neg]
theorem sg_mul (n m : Int) : sg (decide (n < 0) != decide (m < 0)) ((n.natAbs : Int) * m.natAbs) = n * m := by
  rcases lt_ge n with h | h <;> rcases lt_ge m with g | g
  · rw [show decide (n < 0) = true by simpa using h, show decide (m < 0) = true by simpa using g]
    show (n.natAbs : Int) * m.natAbs = _
    rw [show (n.natAbs : Int) = -n by omega, show (m.natAbs : Int) = -m by omega, Int.neg_mul_neg]
  · rw [show decide (n < 0) = true by simpa using h, show decide (m < 0) = false by simp; omega]
    show -((n.natAbs : Int) * m.natAbs) = _
    rw [show (n.natAbs : Int) = -n by omega, show (m.natAbs : Int) = m by omega, Int.neg_mul, Int.neg_neg]
  · rw [show decide (n < 0) = false by simp; omega, show decide (m < 0) = true by simpa using g]
    show -((n.natAbs : Int) * m.natAbs) = _
    rw [show (n.natAbs : Int) = n by omega, show (m.natAbs : Int) = -m by omega, Int.mul_neg, Int.neg_neg]
  · rw [show decide (n < 0) = false by simp; omega, show decide (m < 0) = false by simp; omega]
    show (n.natAbs : Int) * m.natAbs = _
    rw [show (n.natAbs : Int) = n by omega, show (m.natAbs : Int) = m by omega]
theorem do_mul {n m : Int} {k l : Nat} : fitZ (sg (decide (n < 0) != decide (m < 0)) (val (digs (val (digs n.natAbs) * val (digs m.natAbs)).toNat))) (k + l) = mulZ n k m l := by
  rw [(digs_val n.natAbs).1, (digs_val m.natAbs).1, digs_int (Int.mul_nonneg (by omega) (by omega)), sg_mul]
  rfl
theorem sg_div_t (x y : Int) : sg (decide (x < 0) != decide (y < 0)) ((x.natAbs : Int) / y.natAbs) = x.tdiv y := by
  rcases lt_ge x with h | h <;> rcases lt_ge y with g | g
  · rw [show decide (x < 0) = true by simpa using h, show decide (y < 0) = true by simpa using g]
    show (x.natAbs : Int) / y.natAbs = _
    rw [show (x.natAbs : Int) = -x by omega, show (y.natAbs : Int) = -y by omega, ← Int.tdiv_eq_ediv_of_nonneg (by omega), Int.tdiv_neg, Int.neg_tdiv, Int.neg_neg]
  · rw [show decide (x < 0) = true by simpa using h, show decide (y < 0) = false by simp; omega]
    show -((x.natAbs : Int) / y.natAbs) = _
    rw [show (x.natAbs : Int) = -x by omega, show (y.natAbs : Int) = y by omega, ← Int.tdiv_eq_ediv_of_nonneg (by omega), Int.neg_tdiv, Int.neg_neg]
  · rw [show decide (x < 0) = false by simp; omega, show decide (y < 0) = true by simpa using g]
    show -((x.natAbs : Int) / y.natAbs) = _
    rw [show (x.natAbs : Int) = x by omega, show (y.natAbs : Int) = -y by omega, ← Int.tdiv_eq_ediv_of_nonneg (by omega), Int.tdiv_neg, Int.neg_neg]
  · rw [show decide (x < 0) = false by simp; omega, show decide (y < 0) = false by simp; omega]
    show (x.natAbs : Int) / y.natAbs = _
    rw [show (x.natAbs : Int) = x by omega, show (y.natAbs : Int) = y by omega, ← Int.tdiv_eq_ediv_of_nonneg (by omega)]
theorem sg_mod_t (x y : Int) : sg (decide (x < 0)) ((x.natAbs : Int) % y.natAbs) = x.tmod y := by
  rcases lt_ge x with h | h
  · rw [show decide (x < 0) = true by simpa using h]
    show -((x.natAbs : Int) % y.natAbs) = _
    rw [show (x.natAbs : Int) = -x by omega, ← Int.tmod_eq_emod_of_nonneg (by omega), Int.neg_tmod, Int.neg_neg]
    rcases lt_ge y with g | g
    · rw [show (y.natAbs : Int) = -y by omega, Int.tmod_neg]
    · rw [show (y.natAbs : Int) = y by omega]
  · rw [show decide (x < 0) = false by simp; omega]
    show (x.natAbs : Int) % y.natAbs = _
    rw [show (x.natAbs : Int) = x by omega, ← Int.tmod_eq_emod_of_nonneg (by omega)]
    rcases lt_ge y with g | g
    · rw [show (y.natAbs : Int) = -y by omega, Int.tmod_neg]
    · rw [show (y.natAbs : Int) = y by omega]
theorem abs_up (n : Int) (i : Nat) : (n * 10 ^ i).natAbs = ((n.natAbs : Int) * 10 ^ i) ∧ decide (n * 10 ^ i < 0) = decide (n < 0) := by
  have hp := p10 i
  constructor
  · rw [Int.natAbs_mul]
    push_cast
    congr 1
  · refine decide_eq_decide.2 ⟨fun h => ?_, fun h => Int.mul_neg_of_neg_of_pos h hp⟩
    rcases lt_ge n with g | g
    · exact g
    · have := Int.mul_nonneg g (by omega : (0 : Int) ≤ 10 ^ i); omega
theorem val_quo {n m : Int} {i j : Nat} : val (digs (val (upD n i) / val (upD m j)).toNat) = ((n * 10 ^ i).natAbs : Int) / (m * 10 ^ j).natAbs := by
  have h1 := val_nonneg _ (upD_spec n i).1.1
  have h2 := val_nonneg _ (upD_spec m j).1.1
  rw [digs_int (Int.ediv_nonneg h1 h2), (upD_spec n i).2.1, (upD_spec m j).2.1, (abs_up n i).1, (abs_up m j).1]
theorem val_rest {n m : Int} {i j : Nat} (hm : m ≠ 0) : val (digs (val (upD n i) % val (upD m j)).toNat) = ((n * 10 ^ i).natAbs : Int) % (m * 10 ^ j).natAbs := by
  have hp := p10 j
  have h3 : (0 : Int) < (m.natAbs : Int) * 10 ^ j := Int.mul_pos (by omega) hp
  have h2 : val (upD m j) ≠ 0 := by rw [(upD_spec m j).2.1]; omega
  rw [digs_int (Int.emod_nonneg _ h2), (upD_spec n i).2.1, (upD_spec m j).2.1, (abs_up n i).1, (abs_up m j).1]
theorem upD_zero (n : Int) : upD n 0 = digs n.natAbs := by
  unfold upD upL
  split
  · rename_i h; rw [h]
  · simp
theorem do_div {n m : Int} {k l : Nat} : fitZ (sg (decide (n < 0) != decide (m < 0)) (val (digs (val (upD n (9 + l - k)) / val (digs m.natAbs)).toNat))) 9 = divZ n k m l := by
  rw [← upD_zero m, val_quo, ← (abs_up n (9 + l - k)).2, ← (abs_up m 0).2, sg_div_t]
  unfold divZ
  rw [Int.pow_zero, Int.mul_one]
theorem do_idiv {n m : Int} {k l : Nat} : fitZ (sg (decide (n < 0) != decide (m < 0)) (val (digs (val (upD n (sc k l - k)) / val (upD m (sc k l - l))).toNat))) 0 = idivZ n k m l := by
  rw [val_quo, ← (abs_up n (sc k l - k)).2, ← (abs_up m (sc k l - l)).2, sg_div_t]
  unfold idivZ lx
  rw [sc_comm l k]
theorem do_mod {n m : Int} {k l : Nat} (hm : m ≠ 0) : fitZ (sg (decide (n < 0)) (val (digs (val (upD n (sc k l - k)) % val (upD m (sc k l - l))).toNat))) (sc k l) = modZ n k m l := by
  rw [val_rest hm, ← (abs_up n (sc k l - k)).2, sg_mod_t]
  unfold modZ lx
  rw [sc_comm l k]
theorem val_pos {m : Int} (hm : m ≠ 0) (j : Nat) : 0 < val (upD m j) := by
  rw [(upD_spec m j).2.1]
  exact Int.mul_pos (by omega) (p10 j)
/-- What is asked of a difference. -/
theorem do_cmp {n m : Int} {k l : Nat} (r : Bool × List Int) (hr : addB (decide (n < 0)) (!decide (m < 0)) (upD n (sc k l - k)) (upD m (sc k l - l)) = r) :
    trimL r.2 = r.2 ∧ (r.2 = [] → cmpZ n k m l = 0) ∧ (r.2 ≠ [] → r.1 = true → cmpZ n k m l = -1) ∧ (r.2 ≠ [] → r.1 = false → cmpZ n k m l = 1) := by
  have h1 := add_big (decide (n < 0)) (!decide (m < 0)) _ _ (upD_spec n (sc k l - k)).1 (upD_spec m (sc k l - l)).1
  rw [hr, sg_not, upD_sg, upD_sg] at h1
  obtain ⟨hc, hv⟩ := h1
  have hv' : sg r.1 (val r.2) = lx n k l - lx m l k := by
    rw [hv]; unfold lx; rw [sc_comm l k]; omega
  have hpos : r.2 ≠ [] → 0 < val r.2 := fun h => by
    rcases hc.2 with e | e
    · exact absurd e h
    · have := p10 (r.2.length - 1); omega
  refine ⟨?_, fun h => ?_, fun h hb => ?_, fun h hb => ?_⟩
  · have ht := trim_spec r.2 hc.1
    exact canon_inj ht.1 hc ht.2.1
  · rw [h] at hv'
    simp only [val, sg_zero] at hv'
    unfold cmpZ
    rw [if_neg (by omega), if_pos (by omega)]
  · have := hpos h
    rw [hb] at hv'
    simp only [sg, if_true] at hv'
    unfold cmpZ
    rw [if_pos (by omega)]
  · have := hpos h
    rw [hb] at hv'
    simp [sg] at hv'
    unfold cmpZ
    rw [if_neg (by omega), if_neg (by omega)]
end Go.Proofs
namespace Go.Proofs
open Go.Shelf Go.RowKit Go.Proofs.Wide Go.Proofs.Dig
set_option maxRecDepth 100000
set_option maxHeartbeats 8000000
/-- A call answers a whole number of the reference's. -/
def UnF (neg : Bool) (l : List Int) (w : World) (e : Ending) (w' : World) : Prop := ∃ A c, e = .returned (.agg #[.bool neg, .slice A l.length c]) ∧ Rd w' A l ∧ l.length ≤ c ∧ c ≤ 9223372036854775807 ∧ Below w.heap.size w w'
def UpC (na : Bool) (a x : List Int) (i : Int) : Prop := ∀ (w : World) (A : Option Addr) (c : Nat), Rd w A a → a.length ≤ c → c ≤ 9223372036854775807 → Calls Tryd.prog 50 #[.agg #[.bool na, .slice A a.length c], .int .i64 i] w (UnF na x w)
def OfC (n : Int) (na : Bool) (a : List Int) : Prop := ∀ w : World, Calls Tryd.prog 13 #[.int .i64 n] w (UnF na a w)
def TwoC (f : Nat) (na nb : Bool) (a b : List Int) (nr : Bool) (r : List Int) : Prop := ∀ (w : World) (A B : Option Addr) (c d : Nat), Rd w A a → a.length ≤ c → c ≤ 9223372036854775807 → Rd w B b → b.length ≤ d → d ≤ 9223372036854775807 → Calls Tryd.prog f #[.agg #[.bool na, .slice A a.length c], .agg #[.bool nb, .slice B b.length d]] w (UnF nr r w)
def DivC (na nb : Bool) (a b : List Int) (nr : Bool) (r : List Int) (nm : Bool) (m : List Int) : Prop := ∀ (w : World) (A B : Option Addr) (c d : Nat), Rd w A a → a.length ≤ c → c ≤ 9223372036854775807 → Rd w B b → b.length ≤ d → d ≤ 9223372036854775807 → Calls Tryd.prog 53 #[.agg #[.bool na, .slice A a.length c], .agg #[.bool nb, .slice B b.length d]] w fun e w' => ∃ A1 c1 A2 c2, e = .returned (.tuple #[.agg #[.bool nr, .slice A1 r.length c1], .agg #[.bool nm, .slice A2 m.length c2]]) ∧ Rd w' A1 r ∧ r.length ≤ c1 ∧ c1 ≤ 9223372036854775807 ∧ Rd w' A2 m ∧ m.length ≤ c2 ∧ c2 ≤ 9223372036854775807 ∧ Below w.heap.size w w'
def FitC (nr : Bool) (r : List Int) (s qn qk : Int) (qb : Bool) : Prop := ∀ (w : World) (A : Option Addr) (c : Nat), Rd w A r → r.length ≤ c → c ≤ 9223372036854775807 → Calls Tryd.prog 12 #[.agg #[.bool nr, .slice A r.length c], .int .i64 s] w fun e w' => e = .returned (.tuple #[.int .i64 qn, .int .i64 qk, .bool qb]) ∧ Below w.heap.size w w'
theorem do_0 (n m k l s : Int) (na nb : Bool) (a b x y : List Int) (w0 : World) (qn qk qe : Int) (qb : Bool) (hs : max k l = s) (hk : 0 ≤ s - k ∧ s - k ≤ 9) (hl : 0 ≤ s - l ∧ s - l ≤ 9) (_hkl : 0 ≤ k ∧ k ≤ 9 ∧ 0 ≤ l ∧ l ≤ 9) (nr : Bool) (r : List Int) (HA : Hid (OfC n na a)) (HB : Hid (OfC m nb b)) (HX : Hid (UpC na a x (s - k))) (HY : Hid (UpC nb b y (s - l))) (HS : Hid (TwoC 51 na nb x y nr r)) (HF : Hid (FitC nr r s qn qk qb)) (hq : (qb = true ∧ qe = 0) ∨ (qb = false ∧ qn = 0 ∧ qk = 0 ∧ qe = 53)) :
    Calls Tryd.prog 24 #[.int .i64 0, .int .i64 n, .int .i64 k, .int .i64 m, .int .i64 l] w0 fun e w' => e = .returned (.tuple #[.int .i64 qn, .int .i64 qk, .int .i64 qe]) ∧ Below w0.heap.size w0 w' := by
  have ws1 : IntKind.i64.wrap (s - k) = s - k := by rw [IntKind.wrap_i64]; omega
  have ws2 : IntKind.i64.wrap (s - l) = s - l := by rw [IntKind.wrap_i64]; omega
  go_enter Tryd.func24, Tryd.ntmps24
  go_wp2_with fail
  refine (HA.out _).mono ?_
  rintro e w1 ⟨A1, c1, rfl, hr1, hl1, hc1, hbw1⟩
  have Bw1 : Below w0.heap.size w0 w1 := (by repeat (with_reducible (first | exact Below.refl _ _ | assumption | apply ba | apply bd | apply bdr | (refine bs ?_ (by first | assumption | (simp; done) | (simp; omega))) | (refine bt ?_ (by assumption)))))
  have z1 := Bw1.size
  go_wp2_with fail
  refine (HB.out _).mono ?_
  rintro e w2 ⟨A2, c2, rfl, hr2, hl2, hc2, hbw2⟩
  have Tw2 : Below w1.heap.size w1 w2 := (by repeat (with_reducible (first | exact Below.refl _ _ | assumption | apply ba | apply bd | apply bdr | (refine bs ?_ (by first | assumption | (simp; done) | (simp; omega))) | (refine bt ?_ (by assumption)))))
  have Bw2 : Below w0.heap.size w0 w2 := (by repeat (with_reducible (first | exact Below.refl _ _ | assumption | apply ba | apply bd | apply bdr | (refine bs ?_ (by first | assumption | (simp; done) | (simp; omega))) | (refine bt ?_ (by assumption)))))
  have O3 : Own w2 w1.heap.size (.bool na) (.slice A1 a.length c1) := Own.call (Own.new_at rfl) hbw2
  have ra := hr1.call Tw2
  obtain ⟨_, _, _, _⟩ := id O3
  have z2 := Tw2.size
  have y2 := O3.lt
  go_wp2_with fail
  refine (HX.out _ _ _ (ra.call (by repeat (with_reducible (first | exact Below.refl _ _ | assumption | apply ba | apply bd | apply bdr | (refine bs ?_ (by first | assumption | (simp; done) | (simp; omega))) | (refine bt ?_ (by assumption)))))) hl1 hc1).mono ?_
  rintro e w3 ⟨A3, c3, rfl, hr3, hl3, hc3, hbw3⟩
  have Tw3 : Below w2.heap.size w2 w3 := (by repeat (with_reducible (first | exact Below.refl _ _ | assumption | apply ba | apply bd | apply bdr | (refine bs ?_ (by first | assumption | (simp; done) | (simp; omega))) | (refine bt ?_ (by assumption)))))
  have Bw3 : Below w0.heap.size w0 w3 := (by repeat (with_reducible (first | exact Below.refl _ _ | assumption | apply ba | apply bd | apply bdr | (refine bs ?_ (by first | assumption | (simp; done) | (simp; omega))) | (refine bt ?_ (by assumption)))))
  have P3 := O3.call Tw3
  have O4 : Own w3 w2.heap.size (.bool nb) (.slice A2 b.length c2) := Own.call (Own.new_at rfl) hbw3
  have rb := hr2.call Tw3
  have ra3 := ra.call Tw3
  obtain ⟨_, _, _, _⟩ := id P3
  obtain ⟨_, _, _, _⟩ := id O4
  have z3 := Tw3.size
  have y31 := P3.lt
  have y32 := O4.lt
  clear O3 ra
  go_wp2_with fail
  refine (HY.out _ _ _ (rb.call (by repeat (with_reducible (first | exact Below.refl _ _ | assumption | apply ba | apply bd | apply bdr | (refine bs ?_ (by first | assumption | (simp; done) | (simp; omega))) | (refine bt ?_ (by assumption)))))) hl2 hc2).mono ?_
  rintro e w4 ⟨A4, c4, rfl, hr4, hl4, hc4, hbw4⟩
  have Tw4 : Below w3.heap.size w3 w4 := (by repeat (with_reducible (first | exact Below.refl _ _ | assumption | apply ba | apply bd | apply bdr | (refine bs ?_ (by first | assumption | (simp; done) | (simp; omega))) | (refine bt ?_ (by assumption)))))
  have Bw4 : Below w0.heap.size w0 w4 := (by repeat (with_reducible (first | exact Below.refl _ _ | assumption | apply ba | apply bd | apply bdr | (refine bs ?_ (by first | assumption | (simp; done) | (simp; omega))) | (refine bt ?_ (by assumption)))))
  have Q3 := P3.call Tw4
  have P4 := O4.call Tw4
  have O6 : Own w4 w3.heap.size (.bool na) (.slice A3 x.length c3) := Own.call (Own.new_at rfl) hbw4
  have rx := hr3.call Tw4
  have rb4 := rb.call Tw4
  have ra4 := ra3.call Tw4
  obtain ⟨_, _, _, _⟩ := id Q3
  obtain ⟨_, _, _, _⟩ := id P4
  obtain ⟨_, _, _, _⟩ := id O6
  have z4 := Tw4.size
  have y41 := Q3.lt
  have y42 := P4.lt
  have y43 := O6.lt
  clear P3 O4 rb ra3
  go_wp2_with fail
  refine (HS.out _ _ _ _ _ (rx.call (by repeat (with_reducible (first | exact Below.refl _ _ | assumption | apply ba | apply bd | apply bdr | (refine bs ?_ (by first | assumption | (simp; done) | (simp; omega))) | (refine bt ?_ (by assumption)))))) hl3 hc3 (hr4.call (by repeat (with_reducible (first | exact Below.refl _ _ | assumption | apply ba | apply bd | apply bdr | (refine bs ?_ (by first | assumption | (simp; done) | (simp; omega))) | (refine bt ?_ (by assumption)))))) hl4 hc4).mono ?_
  rintro e w5 ⟨A5, c5, rfl, hr5, hl5, hc5, hbw5⟩
  have Tw5 : Below w4.heap.size w4 w5 := (by repeat (with_reducible (first | exact Below.refl _ _ | assumption | apply ba | apply bd | apply bdr | (refine bs ?_ (by first | assumption | (simp; done) | (simp; omega))) | (refine bt ?_ (by assumption)))))
  have Bw5 : Below w0.heap.size w0 w5 := (by repeat (with_reducible (first | exact Below.refl _ _ | assumption | apply ba | apply bd | apply bdr | (refine bs ?_ (by first | assumption | (simp; done) | (simp; omega))) | (refine bt ?_ (by assumption)))))
  have O8 : Own w5 (w4.heap.size + 1) (.bool false) (.slice none 0 0) := Own.call (Own.new_at (by simp)) hbw5
  obtain ⟨_, _, _, _⟩ := id O8
  have z5 := Tw5.size
  have y5 := O8.lt
  go_wp2_with fail
  refine (HF.out _ _ _ (rd_store hr5 O8 _ _) hl5 hc5).mono ?_
  rintro e w9 ⟨rfl, hbw9⟩
  have Bw9 : Below w0.heap.size w0 w9 := (by repeat (with_reducible (first | exact Below.refl _ _ | assumption | apply ba | apply bd | apply bdr | (refine bs ?_ (by first | assumption | (simp; done) | (simp; omega))) | (refine bt ?_ (by assumption)))))
  rcases hq with ⟨rfl, rfl⟩ | ⟨rfl, rfl, rfl, rfl⟩
  · go_wp2
    exact bodyPost_ret (v := .tuple #[.int .i64 qn, .int .i64 qk, .int .i64 0]) (by simp [results, Tryd.results24, go_sem]) rfl ⟨rfl, Bw9⟩
  · go_wp2
    exact bodyPost_ret (v := .tuple #[.int .i64 0, .int .i64 0, .int .i64 53]) (by simp [results, Tryd.results24, go_sem]) rfl ⟨rfl, Bw9⟩
theorem do_1 (n m k l s : Int) (na nb : Bool) (a b x y : List Int) (w0 : World) (qn qk qe : Int) (qb : Bool) (hs : max k l = s) (hk : 0 ≤ s - k ∧ s - k ≤ 9) (hl : 0 ≤ s - l ∧ s - l ≤ 9) (_hkl : 0 ≤ k ∧ k ≤ 9 ∧ 0 ≤ l ∧ l ≤ 9) (nr : Bool) (r : List Int) (HA : Hid (OfC n na a)) (HB : Hid (OfC m nb b)) (HX : Hid (UpC na a x (s - k))) (HY : Hid (UpC nb b y (s - l))) (HS : Hid (TwoC 51 na (!nb) x y nr r)) (HF : Hid (FitC nr r s qn qk qb)) (hq : (qb = true ∧ qe = 0) ∨ (qb = false ∧ qn = 0 ∧ qk = 0 ∧ qe = 53)) :
    Calls Tryd.prog 24 #[.int .i64 1, .int .i64 n, .int .i64 k, .int .i64 m, .int .i64 l] w0 fun e w' => e = .returned (.tuple #[.int .i64 qn, .int .i64 qk, .int .i64 qe]) ∧ Below w0.heap.size w0 w' := by
  have ws1 : IntKind.i64.wrap (s - k) = s - k := by rw [IntKind.wrap_i64]; omega
  have ws2 : IntKind.i64.wrap (s - l) = s - l := by rw [IntKind.wrap_i64]; omega
  go_enter Tryd.func24, Tryd.ntmps24
  go_wp2_with fail
  refine (HA.out _).mono ?_
  rintro e w1 ⟨A1, c1, rfl, hr1, hl1, hc1, hbw1⟩
  have Bw1 : Below w0.heap.size w0 w1 := (by repeat (with_reducible (first | exact Below.refl _ _ | assumption | apply ba | apply bd | apply bdr | (refine bs ?_ (by first | assumption | (simp; done) | (simp; omega))) | (refine bt ?_ (by assumption)))))
  have z1 := Bw1.size
  go_wp2_with fail
  refine (HB.out _).mono ?_
  rintro e w2 ⟨A2, c2, rfl, hr2, hl2, hc2, hbw2⟩
  have Tw2 : Below w1.heap.size w1 w2 := (by repeat (with_reducible (first | exact Below.refl _ _ | assumption | apply ba | apply bd | apply bdr | (refine bs ?_ (by first | assumption | (simp; done) | (simp; omega))) | (refine bt ?_ (by assumption)))))
  have Bw2 : Below w0.heap.size w0 w2 := (by repeat (with_reducible (first | exact Below.refl _ _ | assumption | apply ba | apply bd | apply bdr | (refine bs ?_ (by first | assumption | (simp; done) | (simp; omega))) | (refine bt ?_ (by assumption)))))
  have O3 : Own w2 w1.heap.size (.bool na) (.slice A1 a.length c1) := Own.call (Own.new_at rfl) hbw2
  have ra := hr1.call Tw2
  obtain ⟨_, _, _, _⟩ := id O3
  have z2 := Tw2.size
  have y2 := O3.lt
  go_wp2_with fail
  refine (HX.out _ _ _ (ra.call (by repeat (with_reducible (first | exact Below.refl _ _ | assumption | apply ba | apply bd | apply bdr | (refine bs ?_ (by first | assumption | (simp; done) | (simp; omega))) | (refine bt ?_ (by assumption)))))) hl1 hc1).mono ?_
  rintro e w3 ⟨A3, c3, rfl, hr3, hl3, hc3, hbw3⟩
  have Tw3 : Below w2.heap.size w2 w3 := (by repeat (with_reducible (first | exact Below.refl _ _ | assumption | apply ba | apply bd | apply bdr | (refine bs ?_ (by first | assumption | (simp; done) | (simp; omega))) | (refine bt ?_ (by assumption)))))
  have Bw3 : Below w0.heap.size w0 w3 := (by repeat (with_reducible (first | exact Below.refl _ _ | assumption | apply ba | apply bd | apply bdr | (refine bs ?_ (by first | assumption | (simp; done) | (simp; omega))) | (refine bt ?_ (by assumption)))))
  have P3 := O3.call Tw3
  have O4 : Own w3 w2.heap.size (.bool nb) (.slice A2 b.length c2) := Own.call (Own.new_at rfl) hbw3
  have rb := hr2.call Tw3
  have ra3 := ra.call Tw3
  obtain ⟨_, _, _, _⟩ := id P3
  obtain ⟨_, _, _, _⟩ := id O4
  have z3 := Tw3.size
  have y31 := P3.lt
  have y32 := O4.lt
  clear O3 ra
  go_wp2_with fail
  refine (HY.out _ _ _ (rb.call (by repeat (with_reducible (first | exact Below.refl _ _ | assumption | apply ba | apply bd | apply bdr | (refine bs ?_ (by first | assumption | (simp; done) | (simp; omega))) | (refine bt ?_ (by assumption)))))) hl2 hc2).mono ?_
  rintro e w4 ⟨A4, c4, rfl, hr4, hl4, hc4, hbw4⟩
  have Tw4 : Below w3.heap.size w3 w4 := (by repeat (with_reducible (first | exact Below.refl _ _ | assumption | apply ba | apply bd | apply bdr | (refine bs ?_ (by first | assumption | (simp; done) | (simp; omega))) | (refine bt ?_ (by assumption)))))
  have Bw4 : Below w0.heap.size w0 w4 := (by repeat (with_reducible (first | exact Below.refl _ _ | assumption | apply ba | apply bd | apply bdr | (refine bs ?_ (by first | assumption | (simp; done) | (simp; omega))) | (refine bt ?_ (by assumption)))))
  have Q3 := P3.call Tw4
  have P4 := O4.call Tw4
  have O6 : Own w4 w3.heap.size (.bool na) (.slice A3 x.length c3) := Own.call (Own.new_at rfl) hbw4
  have rx := hr3.call Tw4
  have rb4 := rb.call Tw4
  have ra4 := ra3.call Tw4
  obtain ⟨_, _, _, _⟩ := id Q3
  obtain ⟨_, _, _, _⟩ := id P4
  obtain ⟨_, _, _, _⟩ := id O6
  have z4 := Tw4.size
  have y41 := Q3.lt
  have y42 := P4.lt
  have y43 := O6.lt
  clear P3 O4 rb ra3
  go_wp2_with fail
  refine (HS.out _ _ _ _ _ (rx.call (by repeat (with_reducible (first | exact Below.refl _ _ | assumption | apply ba | apply bd | apply bdr | (refine bs ?_ (by first | assumption | (simp; done) | (simp; omega))) | (refine bt ?_ (by assumption)))))) hl3 hc3 (hr4.call (by repeat (with_reducible (first | exact Below.refl _ _ | assumption | apply ba | apply bd | apply bdr | (refine bs ?_ (by first | assumption | (simp; done) | (simp; omega))) | (refine bt ?_ (by assumption)))))) hl4 hc4).mono ?_
  rintro e w5 ⟨A5, c5, rfl, hr5, hl5, hc5, hbw5⟩
  have Tw5 : Below w4.heap.size w4 w5 := (by repeat (with_reducible (first | exact Below.refl _ _ | assumption | apply ba | apply bd | apply bdr | (refine bs ?_ (by first | assumption | (simp; done) | (simp; omega))) | (refine bt ?_ (by assumption)))))
  have Bw5 : Below w0.heap.size w0 w5 := (by repeat (with_reducible (first | exact Below.refl _ _ | assumption | apply ba | apply bd | apply bdr | (refine bs ?_ (by first | assumption | (simp; done) | (simp; omega))) | (refine bt ?_ (by assumption)))))
  have O8 : Own w5 (w4.heap.size + 1) (.bool false) (.slice none 0 0) := Own.call (Own.new_at (by simp)) hbw5
  obtain ⟨_, _, _, _⟩ := id O8
  have z5 := Tw5.size
  have y5 := O8.lt
  go_wp2_with fail
  refine (HF.out _ _ _ (rd_store hr5 O8 _ _) hl5 hc5).mono ?_
  rintro e w9 ⟨rfl, hbw9⟩
  have Bw9 : Below w0.heap.size w0 w9 := (by repeat (with_reducible (first | exact Below.refl _ _ | assumption | apply ba | apply bd | apply bdr | (refine bs ?_ (by first | assumption | (simp; done) | (simp; omega))) | (refine bt ?_ (by assumption)))))
  rcases hq with ⟨rfl, rfl⟩ | ⟨rfl, rfl, rfl, rfl⟩
  · go_wp2
    exact bodyPost_ret (v := .tuple #[.int .i64 qn, .int .i64 qk, .int .i64 0]) (by simp [results, Tryd.results24, go_sem]) rfl ⟨rfl, Bw9⟩
  · go_wp2
    exact bodyPost_ret (v := .tuple #[.int .i64 0, .int .i64 0, .int .i64 53]) (by simp [results, Tryd.results24, go_sem]) rfl ⟨rfl, Bw9⟩
theorem do_2 (n m k l s : Int) (na nb : Bool) (a b x y : List Int) (w0 : World) (qn qk qe : Int) (qb : Bool) (hs : max k l = s) (hk : 0 ≤ s - k ∧ s - k ≤ 9) (hl : 0 ≤ s - l ∧ s - l ≤ 9) (hkl : 0 ≤ k ∧ k ≤ 9 ∧ 0 ≤ l ∧ l ≤ 9) (nr : Bool) (r : List Int) (HA : Hid (OfC n na a)) (HB : Hid (OfC m nb b)) (HX : Hid (UpC na a x (s - k))) (HY : Hid (UpC nb b y (s - l))) (HS : Hid (TwoC 52 na nb a b nr r)) (HF : Hid (FitC nr r (k + l) qn qk qb)) (hq : (qb = true ∧ qe = 0) ∨ (qb = false ∧ qn = 0 ∧ qk = 0 ∧ qe = 53)) :
    Calls Tryd.prog 24 #[.int .i64 2, .int .i64 n, .int .i64 k, .int .i64 m, .int .i64 l] w0 fun e w' => e = .returned (.tuple #[.int .i64 qn, .int .i64 qk, .int .i64 qe]) ∧ Below w0.heap.size w0 w' := by
  have ws1 : IntKind.i64.wrap (s - k) = s - k := by rw [IntKind.wrap_i64]; omega
  have ws2 : IntKind.i64.wrap (s - l) = s - l := by rw [IntKind.wrap_i64]; omega
  have ws3 : IntKind.i64.wrap (k + l) = k + l := by rw [IntKind.wrap_i64]; omega
  go_enter Tryd.func24, Tryd.ntmps24
  go_wp2_with fail
  refine (HA.out _).mono ?_
  rintro e w1 ⟨A1, c1, rfl, hr1, hl1, hc1, hbw1⟩
  have Bw1 : Below w0.heap.size w0 w1 := (by repeat (with_reducible (first | exact Below.refl _ _ | assumption | apply ba | apply bd | apply bdr | (refine bs ?_ (by first | assumption | (simp; done) | (simp; omega))) | (refine bt ?_ (by assumption)))))
  have z1 := Bw1.size
  go_wp2_with fail
  refine (HB.out _).mono ?_
  rintro e w2 ⟨A2, c2, rfl, hr2, hl2, hc2, hbw2⟩
  have Tw2 : Below w1.heap.size w1 w2 := (by repeat (with_reducible (first | exact Below.refl _ _ | assumption | apply ba | apply bd | apply bdr | (refine bs ?_ (by first | assumption | (simp; done) | (simp; omega))) | (refine bt ?_ (by assumption)))))
  have Bw2 : Below w0.heap.size w0 w2 := (by repeat (with_reducible (first | exact Below.refl _ _ | assumption | apply ba | apply bd | apply bdr | (refine bs ?_ (by first | assumption | (simp; done) | (simp; omega))) | (refine bt ?_ (by assumption)))))
  have O3 : Own w2 w1.heap.size (.bool na) (.slice A1 a.length c1) := Own.call (Own.new_at rfl) hbw2
  have ra := hr1.call Tw2
  obtain ⟨_, _, _, _⟩ := id O3
  have z2 := Tw2.size
  have y2 := O3.lt
  go_wp2_with fail
  refine (HX.out _ _ _ (ra.call (by repeat (with_reducible (first | exact Below.refl _ _ | assumption | apply ba | apply bd | apply bdr | (refine bs ?_ (by first | assumption | (simp; done) | (simp; omega))) | (refine bt ?_ (by assumption)))))) hl1 hc1).mono ?_
  rintro e w3 ⟨A3, c3, rfl, hr3, hl3, hc3, hbw3⟩
  have Tw3 : Below w2.heap.size w2 w3 := (by repeat (with_reducible (first | exact Below.refl _ _ | assumption | apply ba | apply bd | apply bdr | (refine bs ?_ (by first | assumption | (simp; done) | (simp; omega))) | (refine bt ?_ (by assumption)))))
  have Bw3 : Below w0.heap.size w0 w3 := (by repeat (with_reducible (first | exact Below.refl _ _ | assumption | apply ba | apply bd | apply bdr | (refine bs ?_ (by first | assumption | (simp; done) | (simp; omega))) | (refine bt ?_ (by assumption)))))
  have P3 := O3.call Tw3
  have O4 : Own w3 w2.heap.size (.bool nb) (.slice A2 b.length c2) := Own.call (Own.new_at rfl) hbw3
  have rb := hr2.call Tw3
  have ra3 := ra.call Tw3
  obtain ⟨_, _, _, _⟩ := id P3
  obtain ⟨_, _, _, _⟩ := id O4
  have z3 := Tw3.size
  have y31 := P3.lt
  have y32 := O4.lt
  clear O3 ra
  go_wp2_with fail
  refine (HY.out _ _ _ (rb.call (by repeat (with_reducible (first | exact Below.refl _ _ | assumption | apply ba | apply bd | apply bdr | (refine bs ?_ (by first | assumption | (simp; done) | (simp; omega))) | (refine bt ?_ (by assumption)))))) hl2 hc2).mono ?_
  rintro e w4 ⟨A4, c4, rfl, hr4, hl4, hc4, hbw4⟩
  have Tw4 : Below w3.heap.size w3 w4 := (by repeat (with_reducible (first | exact Below.refl _ _ | assumption | apply ba | apply bd | apply bdr | (refine bs ?_ (by first | assumption | (simp; done) | (simp; omega))) | (refine bt ?_ (by assumption)))))
  have Bw4 : Below w0.heap.size w0 w4 := (by repeat (with_reducible (first | exact Below.refl _ _ | assumption | apply ba | apply bd | apply bdr | (refine bs ?_ (by first | assumption | (simp; done) | (simp; omega))) | (refine bt ?_ (by assumption)))))
  have Q3 := P3.call Tw4
  have P4 := O4.call Tw4
  have O6 : Own w4 w3.heap.size (.bool na) (.slice A3 x.length c3) := Own.call (Own.new_at rfl) hbw4
  have rx := hr3.call Tw4
  have rb4 := rb.call Tw4
  have ra4 := ra3.call Tw4
  obtain ⟨_, _, _, _⟩ := id Q3
  obtain ⟨_, _, _, _⟩ := id P4
  obtain ⟨_, _, _, _⟩ := id O6
  have z4 := Tw4.size
  have y41 := Q3.lt
  have y42 := P4.lt
  have y43 := O6.lt
  clear P3 O4 rb ra3
  go_wp2_with fail
  refine (HS.out _ _ _ _ _ (ra4.call (by repeat (with_reducible (first | exact Below.refl _ _ | assumption | apply ba | apply bd | apply bdr | (refine bs ?_ (by first | assumption | (simp; done) | (simp; omega))) | (refine bt ?_ (by assumption)))))) hl1 hc1 (rb4.call (by repeat (with_reducible (first | exact Below.refl _ _ | assumption | apply ba | apply bd | apply bdr | (refine bs ?_ (by first | assumption | (simp; done) | (simp; omega))) | (refine bt ?_ (by assumption)))))) hl2 hc2).mono ?_
  rintro e w5 ⟨A5, c5, rfl, hr5, hl5, hc5, hbw5⟩
  have Tw5 : Below w4.heap.size w4 w5 := (by repeat (with_reducible (first | exact Below.refl _ _ | assumption | apply ba | apply bd | apply bdr | (refine bs ?_ (by first | assumption | (simp; done) | (simp; omega))) | (refine bt ?_ (by assumption)))))
  have Bw5 : Below w0.heap.size w0 w5 := (by repeat (with_reducible (first | exact Below.refl _ _ | assumption | apply ba | apply bd | apply bdr | (refine bs ?_ (by first | assumption | (simp; done) | (simp; omega))) | (refine bt ?_ (by assumption)))))
  have O8 : Own w5 (w4.heap.size + 1) (.bool false) (.slice none 0 0) := Own.call (Own.new_at (by simp)) hbw5
  obtain ⟨_, _, _, _⟩ := id O8
  have z5 := Tw5.size
  have y5 := O8.lt
  go_wp2_with fail
  refine (HF.out _ _ _ (rd_store hr5 O8 _ _) hl5 hc5).mono ?_
  rintro e w9 ⟨rfl, hbw9⟩
  have Bw9 : Below w0.heap.size w0 w9 := (by repeat (with_reducible (first | exact Below.refl _ _ | assumption | apply ba | apply bd | apply bdr | (refine bs ?_ (by first | assumption | (simp; done) | (simp; omega))) | (refine bt ?_ (by assumption)))))
  rcases hq with ⟨rfl, rfl⟩ | ⟨rfl, rfl, rfl, rfl⟩
  · go_wp2
    exact bodyPost_ret (v := .tuple #[.int .i64 qn, .int .i64 qk, .int .i64 0]) (by simp [results, Tryd.results24, go_sem]) rfl ⟨rfl, Bw9⟩
  · go_wp2
    exact bodyPost_ret (v := .tuple #[.int .i64 0, .int .i64 0, .int .i64 53]) (by simp [results, Tryd.results24, go_sem]) rfl ⟨rfl, Bw9⟩
theorem do_4 (n m k l s : Int) (na nb : Bool) (a b x y : List Int) (w0 : World) (qn qk qe : Int) (qb : Bool) (hs : max k l = s) (hk : 0 ≤ s - k ∧ s - k ≤ 9) (hl : 0 ≤ s - l ∧ s - l ≤ 9) (_hkl : 0 ≤ k ∧ k ≤ 9 ∧ 0 ≤ l ∧ l ≤ 9) (nr nm : Bool) (r mm : List Int) (hm : m ≠ 0) (HA : Hid (OfC n na a)) (HB : Hid (OfC m nb b)) (HX : Hid (UpC na a x (s - k))) (HY : Hid (UpC nb b y (s - l))) (HS : Hid (DivC na nb x y nr r nm mm)) (HF : Hid (FitC nr r 0 qn qk qb)) (hq : (qb = true ∧ qe = 0) ∨ (qb = false ∧ qn = 0 ∧ qk = 0 ∧ qe = 53)) :
    Calls Tryd.prog 24 #[.int .i64 4, .int .i64 n, .int .i64 k, .int .i64 m, .int .i64 l] w0 fun e w' => e = .returned (.tuple #[.int .i64 qn, .int .i64 qk, .int .i64 qe]) ∧ Below w0.heap.size w0 w' := by
  have ws1 : IntKind.i64.wrap (s - k) = s - k := by rw [IntKind.wrap_i64]; omega
  have ws2 : IntKind.i64.wrap (s - l) = s - l := by rw [IntKind.wrap_i64]; omega
  have gm : (m == 0) = false := by simpa using hm
  have gm2 : decide (m = 0) = false := by simpa using hm
  go_enter Tryd.func24, Tryd.ntmps24
  go_wp2_with fail
  refine (HA.out _).mono ?_
  rintro e w1 ⟨A1, c1, rfl, hr1, hl1, hc1, hbw1⟩
  have Bw1 : Below w0.heap.size w0 w1 := (by repeat (with_reducible (first | exact Below.refl _ _ | assumption | apply ba | apply bd | apply bdr | (refine bs ?_ (by first | assumption | (simp; done) | (simp; omega))) | (refine bt ?_ (by assumption)))))
  have z1 := Bw1.size
  go_wp2_with fail
  refine (HB.out _).mono ?_
  rintro e w2 ⟨A2, c2, rfl, hr2, hl2, hc2, hbw2⟩
  have Tw2 : Below w1.heap.size w1 w2 := (by repeat (with_reducible (first | exact Below.refl _ _ | assumption | apply ba | apply bd | apply bdr | (refine bs ?_ (by first | assumption | (simp; done) | (simp; omega))) | (refine bt ?_ (by assumption)))))
  have Bw2 : Below w0.heap.size w0 w2 := (by repeat (with_reducible (first | exact Below.refl _ _ | assumption | apply ba | apply bd | apply bdr | (refine bs ?_ (by first | assumption | (simp; done) | (simp; omega))) | (refine bt ?_ (by assumption)))))
  have O3 : Own w2 w1.heap.size (.bool na) (.slice A1 a.length c1) := Own.call (Own.new_at rfl) hbw2
  have ra := hr1.call Tw2
  obtain ⟨_, _, _, _⟩ := id O3
  have z2 := Tw2.size
  have y2 := O3.lt
  go_wp2_with fail
  refine (HX.out _ _ _ (ra.call (by repeat (with_reducible (first | exact Below.refl _ _ | assumption | apply ba | apply bd | apply bdr | (refine bs ?_ (by first | assumption | (simp; done) | (simp; omega))) | (refine bt ?_ (by assumption)))))) hl1 hc1).mono ?_
  rintro e w3 ⟨A3, c3, rfl, hr3, hl3, hc3, hbw3⟩
  have Tw3 : Below w2.heap.size w2 w3 := (by repeat (with_reducible (first | exact Below.refl _ _ | assumption | apply ba | apply bd | apply bdr | (refine bs ?_ (by first | assumption | (simp; done) | (simp; omega))) | (refine bt ?_ (by assumption)))))
  have Bw3 : Below w0.heap.size w0 w3 := (by repeat (with_reducible (first | exact Below.refl _ _ | assumption | apply ba | apply bd | apply bdr | (refine bs ?_ (by first | assumption | (simp; done) | (simp; omega))) | (refine bt ?_ (by assumption)))))
  have P3 := O3.call Tw3
  have O4 : Own w3 w2.heap.size (.bool nb) (.slice A2 b.length c2) := Own.call (Own.new_at rfl) hbw3
  have rb := hr2.call Tw3
  have ra3 := ra.call Tw3
  obtain ⟨_, _, _, _⟩ := id P3
  obtain ⟨_, _, _, _⟩ := id O4
  have z3 := Tw3.size
  have y31 := P3.lt
  have y32 := O4.lt
  clear O3 ra
  go_wp2_with fail
  refine (HY.out _ _ _ (rb.call (by repeat (with_reducible (first | exact Below.refl _ _ | assumption | apply ba | apply bd | apply bdr | (refine bs ?_ (by first | assumption | (simp; done) | (simp; omega))) | (refine bt ?_ (by assumption)))))) hl2 hc2).mono ?_
  rintro e w4 ⟨A4, c4, rfl, hr4, hl4, hc4, hbw4⟩
  have Tw4 : Below w3.heap.size w3 w4 := (by repeat (with_reducible (first | exact Below.refl _ _ | assumption | apply ba | apply bd | apply bdr | (refine bs ?_ (by first | assumption | (simp; done) | (simp; omega))) | (refine bt ?_ (by assumption)))))
  have Bw4 : Below w0.heap.size w0 w4 := (by repeat (with_reducible (first | exact Below.refl _ _ | assumption | apply ba | apply bd | apply bdr | (refine bs ?_ (by first | assumption | (simp; done) | (simp; omega))) | (refine bt ?_ (by assumption)))))
  have Q3 := P3.call Tw4
  have P4 := O4.call Tw4
  have O6 : Own w4 w3.heap.size (.bool na) (.slice A3 x.length c3) := Own.call (Own.new_at rfl) hbw4
  have rx := hr3.call Tw4
  have rb4 := rb.call Tw4
  have ra4 := ra3.call Tw4
  obtain ⟨_, _, _, _⟩ := id Q3
  obtain ⟨_, _, _, _⟩ := id P4
  obtain ⟨_, _, _, _⟩ := id O6
  have z4 := Tw4.size
  have y41 := Q3.lt
  have y42 := P4.lt
  have y43 := O6.lt
  clear P3 O4 rb ra3
  go_wp2_with fail
  refine (HS.out _ _ _ _ _ (rx.call (by repeat (with_reducible (first | exact Below.refl _ _ | assumption | apply ba | apply bd | apply bdr | (refine bs ?_ (by first | assumption | (simp; done) | (simp; omega))) | (refine bt ?_ (by assumption)))))) hl3 hc3 (hr4.call (by repeat (with_reducible (first | exact Below.refl _ _ | assumption | apply ba | apply bd | apply bdr | (refine bs ?_ (by first | assumption | (simp; done) | (simp; omega))) | (refine bt ?_ (by assumption)))))) hl4 hc4).mono ?_
  rintro e w5 ⟨A5, c5, A6, c6, rfl, hr5, hl5, hc5, hr6, hl6, hc6, hbw5⟩
  have Tw5 : Below w4.heap.size w4 w5 := (by repeat (with_reducible (first | exact Below.refl _ _ | assumption | apply ba | apply bd | apply bdr | (refine bs ?_ (by first | assumption | (simp; done) | (simp; omega))) | (refine bt ?_ (by assumption)))))
  have Bw5 : Below w0.heap.size w0 w5 := (by repeat (with_reducible (first | exact Below.refl _ _ | assumption | apply ba | apply bd | apply bdr | (refine bs ?_ (by first | assumption | (simp; done) | (simp; omega))) | (refine bt ?_ (by assumption)))))
  have O8 : Own w5 (w4.heap.size + 1) (.bool false) (.slice none 0 0) := Own.call (Own.new_at (by simp)) hbw5
  obtain ⟨_, _, _, _⟩ := id O8
  have z5 := Tw5.size
  have l8 := O8.lt
  have l9 : w4.heap.size < w5.heap.size := by omega
  have l10 : w4.heap.size + 1 ≠ w5.heap.size := by omega
  have l11 : w5.heap.size ≠ w4.heap.size + 1 := by omega
  have l12 : w4.heap.size ≠ w5.heap.size := by omega
  have l13 : w5.heap.size ≠ w4.heap.size := by omega
  go_wp2_with fail
  refine (HF.out _ _ _ ((rd_store hr5 O8 _ _).call (by repeat (with_reducible (first | exact Below.refl _ _ | assumption | apply ba | apply bd | apply bdr | (refine bs ?_ (by first | assumption | (simp; done) | (simp; omega))) | (refine bt ?_ (by assumption)))))) hl5 hc5).mono ?_
  rintro e w9 ⟨rfl, hbw9⟩
  have Bw9 : Below w0.heap.size w0 w9 := (by repeat (with_reducible (first | exact Below.refl _ _ | assumption | apply ba | apply bd | apply bdr | (refine bs ?_ (by first | assumption | (simp; done) | (simp; omega))) | (refine bt ?_ (by assumption)))))
  rcases hq with ⟨rfl, rfl⟩ | ⟨rfl, rfl, rfl, rfl⟩
  · go_wp2
    exact bodyPost_ret (v := .tuple #[.int .i64 qn, .int .i64 qk, .int .i64 0]) (by simp [results, Tryd.results24, go_sem]) rfl ⟨rfl, Bw9⟩
  · go_wp2
    exact bodyPost_ret (v := .tuple #[.int .i64 0, .int .i64 0, .int .i64 53]) (by simp [results, Tryd.results24, go_sem]) rfl ⟨rfl, Bw9⟩
theorem do_5 (n m k l s : Int) (na nb : Bool) (a b x y : List Int) (w0 : World) (qn qk qe : Int) (qb : Bool) (hs : max k l = s) (hk : 0 ≤ s - k ∧ s - k ≤ 9) (hl : 0 ≤ s - l ∧ s - l ≤ 9) (_hkl : 0 ≤ k ∧ k ≤ 9 ∧ 0 ≤ l ∧ l ≤ 9) (nr nm : Bool) (r mm : List Int) (hm : m ≠ 0) (HA : Hid (OfC n na a)) (HB : Hid (OfC m nb b)) (HX : Hid (UpC na a x (s - k))) (HY : Hid (UpC nb b y (s - l))) (HS : Hid (DivC na nb x y nr r nm mm)) (HF : Hid (FitC nm mm s qn qk qb)) (hq : (qb = true ∧ qe = 0) ∨ (qb = false ∧ qn = 0 ∧ qk = 0 ∧ qe = 53)) :
    Calls Tryd.prog 24 #[.int .i64 5, .int .i64 n, .int .i64 k, .int .i64 m, .int .i64 l] w0 fun e w' => e = .returned (.tuple #[.int .i64 qn, .int .i64 qk, .int .i64 qe]) ∧ Below w0.heap.size w0 w' := by
  have ws1 : IntKind.i64.wrap (s - k) = s - k := by rw [IntKind.wrap_i64]; omega
  have ws2 : IntKind.i64.wrap (s - l) = s - l := by rw [IntKind.wrap_i64]; omega
  have gm : (m == 0) = false := by simpa using hm
  have gm2 : decide (m = 0) = false := by simpa using hm
  go_enter Tryd.func24, Tryd.ntmps24
  go_wp2_with fail
  refine (HA.out _).mono ?_
  rintro e w1 ⟨A1, c1, rfl, hr1, hl1, hc1, hbw1⟩
  have Bw1 : Below w0.heap.size w0 w1 := (by repeat (with_reducible (first | exact Below.refl _ _ | assumption | apply ba | apply bd | apply bdr | (refine bs ?_ (by first | assumption | (simp; done) | (simp; omega))) | (refine bt ?_ (by assumption)))))
  have z1 := Bw1.size
  go_wp2_with fail
  refine (HB.out _).mono ?_
  rintro e w2 ⟨A2, c2, rfl, hr2, hl2, hc2, hbw2⟩
  have Tw2 : Below w1.heap.size w1 w2 := (by repeat (with_reducible (first | exact Below.refl _ _ | assumption | apply ba | apply bd | apply bdr | (refine bs ?_ (by first | assumption | (simp; done) | (simp; omega))) | (refine bt ?_ (by assumption)))))
  have Bw2 : Below w0.heap.size w0 w2 := (by repeat (with_reducible (first | exact Below.refl _ _ | assumption | apply ba | apply bd | apply bdr | (refine bs ?_ (by first | assumption | (simp; done) | (simp; omega))) | (refine bt ?_ (by assumption)))))
  have O3 : Own w2 w1.heap.size (.bool na) (.slice A1 a.length c1) := Own.call (Own.new_at rfl) hbw2
  have ra := hr1.call Tw2
  obtain ⟨_, _, _, _⟩ := id O3
  have z2 := Tw2.size
  have y2 := O3.lt
  go_wp2_with fail
  refine (HX.out _ _ _ (ra.call (by repeat (with_reducible (first | exact Below.refl _ _ | assumption | apply ba | apply bd | apply bdr | (refine bs ?_ (by first | assumption | (simp; done) | (simp; omega))) | (refine bt ?_ (by assumption)))))) hl1 hc1).mono ?_
  rintro e w3 ⟨A3, c3, rfl, hr3, hl3, hc3, hbw3⟩
  have Tw3 : Below w2.heap.size w2 w3 := (by repeat (with_reducible (first | exact Below.refl _ _ | assumption | apply ba | apply bd | apply bdr | (refine bs ?_ (by first | assumption | (simp; done) | (simp; omega))) | (refine bt ?_ (by assumption)))))
  have Bw3 : Below w0.heap.size w0 w3 := (by repeat (with_reducible (first | exact Below.refl _ _ | assumption | apply ba | apply bd | apply bdr | (refine bs ?_ (by first | assumption | (simp; done) | (simp; omega))) | (refine bt ?_ (by assumption)))))
  have P3 := O3.call Tw3
  have O4 : Own w3 w2.heap.size (.bool nb) (.slice A2 b.length c2) := Own.call (Own.new_at rfl) hbw3
  have rb := hr2.call Tw3
  have ra3 := ra.call Tw3
  obtain ⟨_, _, _, _⟩ := id P3
  obtain ⟨_, _, _, _⟩ := id O4
  have z3 := Tw3.size
  have y31 := P3.lt
  have y32 := O4.lt
  clear O3 ra
  go_wp2_with fail
  refine (HY.out _ _ _ (rb.call (by repeat (with_reducible (first | exact Below.refl _ _ | assumption | apply ba | apply bd | apply bdr | (refine bs ?_ (by first | assumption | (simp; done) | (simp; omega))) | (refine bt ?_ (by assumption)))))) hl2 hc2).mono ?_
  rintro e w4 ⟨A4, c4, rfl, hr4, hl4, hc4, hbw4⟩
  have Tw4 : Below w3.heap.size w3 w4 := (by repeat (with_reducible (first | exact Below.refl _ _ | assumption | apply ba | apply bd | apply bdr | (refine bs ?_ (by first | assumption | (simp; done) | (simp; omega))) | (refine bt ?_ (by assumption)))))
  have Bw4 : Below w0.heap.size w0 w4 := (by repeat (with_reducible (first | exact Below.refl _ _ | assumption | apply ba | apply bd | apply bdr | (refine bs ?_ (by first | assumption | (simp; done) | (simp; omega))) | (refine bt ?_ (by assumption)))))
  have Q3 := P3.call Tw4
  have P4 := O4.call Tw4
  have O6 : Own w4 w3.heap.size (.bool na) (.slice A3 x.length c3) := Own.call (Own.new_at rfl) hbw4
  have rx := hr3.call Tw4
  have rb4 := rb.call Tw4
  have ra4 := ra3.call Tw4
  obtain ⟨_, _, _, _⟩ := id Q3
  obtain ⟨_, _, _, _⟩ := id P4
  obtain ⟨_, _, _, _⟩ := id O6
  have z4 := Tw4.size
  have y41 := Q3.lt
  have y42 := P4.lt
  have y43 := O6.lt
  clear P3 O4 rb ra3
  go_wp2_with fail
  refine (HS.out _ _ _ _ _ (rx.call (by repeat (with_reducible (first | exact Below.refl _ _ | assumption | apply ba | apply bd | apply bdr | (refine bs ?_ (by first | assumption | (simp; done) | (simp; omega))) | (refine bt ?_ (by assumption)))))) hl3 hc3 (hr4.call (by repeat (with_reducible (first | exact Below.refl _ _ | assumption | apply ba | apply bd | apply bdr | (refine bs ?_ (by first | assumption | (simp; done) | (simp; omega))) | (refine bt ?_ (by assumption)))))) hl4 hc4).mono ?_
  rintro e w5 ⟨A5, c5, A6, c6, rfl, hr5, hl5, hc5, hr6, hl6, hc6, hbw5⟩
  have Tw5 : Below w4.heap.size w4 w5 := (by repeat (with_reducible (first | exact Below.refl _ _ | assumption | apply ba | apply bd | apply bdr | (refine bs ?_ (by first | assumption | (simp; done) | (simp; omega))) | (refine bt ?_ (by assumption)))))
  have Bw5 : Below w0.heap.size w0 w5 := (by repeat (with_reducible (first | exact Below.refl _ _ | assumption | apply ba | apply bd | apply bdr | (refine bs ?_ (by first | assumption | (simp; done) | (simp; omega))) | (refine bt ?_ (by assumption)))))
  have O8 : Own w5 (w4.heap.size + 1) (.bool false) (.slice none 0 0) := Own.call (Own.new_at (by simp)) hbw5
  obtain ⟨_, _, _, _⟩ := id O8
  have z5 := Tw5.size
  have l8 := O8.lt
  have l9 : w4.heap.size < w5.heap.size := by omega
  have l10 : w4.heap.size + 1 ≠ w5.heap.size := by omega
  have l11 : w5.heap.size ≠ w4.heap.size + 1 := by omega
  have l12 : w4.heap.size ≠ w5.heap.size := by omega
  have l13 : w5.heap.size ≠ w4.heap.size := by omega
  go_wp2_with fail
  refine (HF.out _ _ _ ((rd_store hr6 O8 _ _).call (by repeat (with_reducible (first | exact Below.refl _ _ | assumption | apply ba | apply bd | apply bdr | (refine bs ?_ (by first | assumption | (simp; done) | (simp; omega))) | (refine bt ?_ (by assumption)))))) hl6 hc6).mono ?_
  rintro e w9 ⟨rfl, hbw9⟩
  have Bw9 : Below w0.heap.size w0 w9 := (by repeat (with_reducible (first | exact Below.refl _ _ | assumption | apply ba | apply bd | apply bdr | (refine bs ?_ (by first | assumption | (simp; done) | (simp; omega))) | (refine bt ?_ (by assumption)))))
  rcases hq with ⟨rfl, rfl⟩ | ⟨rfl, rfl, rfl, rfl⟩
  · go_wp2
    exact bodyPost_ret (v := .tuple #[.int .i64 qn, .int .i64 qk, .int .i64 0]) (by simp [results, Tryd.results24, go_sem]) rfl ⟨rfl, Bw9⟩
  · go_wp2
    exact bodyPost_ret (v := .tuple #[.int .i64 0, .int .i64 0, .int .i64 53]) (by simp [results, Tryd.results24, go_sem]) rfl ⟨rfl, Bw9⟩
theorem do_z3 (n k l s : Int) (na nb : Bool) (a b x y : List Int) (w0 : World) (hs : max k l = s) (hk : 0 ≤ s - k ∧ s - k ≤ 9) (hl : 0 ≤ s - l ∧ s - l ≤ 9) (_hkl : 0 ≤ k ∧ k ≤ 9 ∧ 0 ≤ l ∧ l ≤ 9)  (HA : Hid (OfC n na a)) (HB : Hid (OfC 0 nb b)) (HX : Hid (UpC na a x (s - k))) (HY : Hid (UpC nb b y (s - l)))  :
    Calls Tryd.prog 24 #[.int .i64 3, .int .i64 n, .int .i64 k, .int .i64 0, .int .i64 l] w0 fun e w' => e = .returned (.tuple #[.int .i64 0, .int .i64 0, .int .i64 52]) ∧ Below w0.heap.size w0 w' := by
  have ws1 : IntKind.i64.wrap (s - k) = s - k := by rw [IntKind.wrap_i64]; omega
  have ws2 : IntKind.i64.wrap (s - l) = s - l := by rw [IntKind.wrap_i64]; omega
  go_enter Tryd.func24, Tryd.ntmps24
  go_wp2_with fail
  refine (HA.out _).mono ?_
  rintro e w1 ⟨A1, c1, rfl, hr1, hl1, hc1, hbw1⟩
  have Bw1 : Below w0.heap.size w0 w1 := (by repeat (with_reducible (first | exact Below.refl _ _ | assumption | apply ba | apply bd | apply bdr | (refine bs ?_ (by first | assumption | (simp; done) | (simp; omega))) | (refine bt ?_ (by assumption)))))
  have z1 := Bw1.size
  go_wp2_with fail
  refine (HB.out _).mono ?_
  rintro e w2 ⟨A2, c2, rfl, hr2, hl2, hc2, hbw2⟩
  have Tw2 : Below w1.heap.size w1 w2 := (by repeat (with_reducible (first | exact Below.refl _ _ | assumption | apply ba | apply bd | apply bdr | (refine bs ?_ (by first | assumption | (simp; done) | (simp; omega))) | (refine bt ?_ (by assumption)))))
  have Bw2 : Below w0.heap.size w0 w2 := (by repeat (with_reducible (first | exact Below.refl _ _ | assumption | apply ba | apply bd | apply bdr | (refine bs ?_ (by first | assumption | (simp; done) | (simp; omega))) | (refine bt ?_ (by assumption)))))
  have O3 : Own w2 w1.heap.size (.bool na) (.slice A1 a.length c1) := Own.call (Own.new_at rfl) hbw2
  have ra := hr1.call Tw2
  obtain ⟨_, _, _, _⟩ := id O3
  have z2 := Tw2.size
  have y2 := O3.lt
  go_wp2_with fail
  refine (HX.out _ _ _ (ra.call (by repeat (with_reducible (first | exact Below.refl _ _ | assumption | apply ba | apply bd | apply bdr | (refine bs ?_ (by first | assumption | (simp; done) | (simp; omega))) | (refine bt ?_ (by assumption)))))) hl1 hc1).mono ?_
  rintro e w3 ⟨A3, c3, rfl, hr3, hl3, hc3, hbw3⟩
  have Tw3 : Below w2.heap.size w2 w3 := (by repeat (with_reducible (first | exact Below.refl _ _ | assumption | apply ba | apply bd | apply bdr | (refine bs ?_ (by first | assumption | (simp; done) | (simp; omega))) | (refine bt ?_ (by assumption)))))
  have Bw3 : Below w0.heap.size w0 w3 := (by repeat (with_reducible (first | exact Below.refl _ _ | assumption | apply ba | apply bd | apply bdr | (refine bs ?_ (by first | assumption | (simp; done) | (simp; omega))) | (refine bt ?_ (by assumption)))))
  have P3 := O3.call Tw3
  have O4 : Own w3 w2.heap.size (.bool nb) (.slice A2 b.length c2) := Own.call (Own.new_at rfl) hbw3
  have rb := hr2.call Tw3
  have ra3 := ra.call Tw3
  obtain ⟨_, _, _, _⟩ := id P3
  obtain ⟨_, _, _, _⟩ := id O4
  have z3 := Tw3.size
  have y31 := P3.lt
  have y32 := O4.lt
  clear O3 ra
  go_wp2_with fail
  refine (HY.out _ _ _ (rb.call (by repeat (with_reducible (first | exact Below.refl _ _ | assumption | apply ba | apply bd | apply bdr | (refine bs ?_ (by first | assumption | (simp; done) | (simp; omega))) | (refine bt ?_ (by assumption)))))) hl2 hc2).mono ?_
  rintro e w4 ⟨A4, c4, rfl, hr4, hl4, hc4, hbw4⟩
  have Tw4 : Below w3.heap.size w3 w4 := (by repeat (with_reducible (first | exact Below.refl _ _ | assumption | apply ba | apply bd | apply bdr | (refine bs ?_ (by first | assumption | (simp; done) | (simp; omega))) | (refine bt ?_ (by assumption)))))
  have Bw4 : Below w0.heap.size w0 w4 := (by repeat (with_reducible (first | exact Below.refl _ _ | assumption | apply ba | apply bd | apply bdr | (refine bs ?_ (by first | assumption | (simp; done) | (simp; omega))) | (refine bt ?_ (by assumption)))))
  have Q3 := P3.call Tw4
  have P4 := O4.call Tw4
  have O6 : Own w4 w3.heap.size (.bool na) (.slice A3 x.length c3) := Own.call (Own.new_at rfl) hbw4
  have rx := hr3.call Tw4
  have rb4 := rb.call Tw4
  have ra4 := ra3.call Tw4
  obtain ⟨_, _, _, _⟩ := id Q3
  obtain ⟨_, _, _, _⟩ := id P4
  obtain ⟨_, _, _, _⟩ := id O6
  have z4 := Tw4.size
  have y41 := Q3.lt
  have y42 := P4.lt
  have y43 := O6.lt
  clear P3 O4 rb ra3
  go_wp2
  exact bodyPost_ret (v := .tuple #[.int .i64 0, .int .i64 0, .int .i64 52]) (by simp [results, Tryd.results24, go_sem]) rfl ⟨rfl, (by repeat (with_reducible (first | exact Below.refl _ _ | assumption | apply ba | apply bd | apply bdr | (refine bs ?_ (by first | assumption | (simp; done) | (simp; omega))) | (refine bt ?_ (by assumption)))))⟩
theorem do_z4 (n k l s : Int) (na nb : Bool) (a b x y : List Int) (w0 : World) (hs : max k l = s) (hk : 0 ≤ s - k ∧ s - k ≤ 9) (hl : 0 ≤ s - l ∧ s - l ≤ 9) (_hkl : 0 ≤ k ∧ k ≤ 9 ∧ 0 ≤ l ∧ l ≤ 9)  (HA : Hid (OfC n na a)) (HB : Hid (OfC 0 nb b)) (HX : Hid (UpC na a x (s - k))) (HY : Hid (UpC nb b y (s - l)))  :
    Calls Tryd.prog 24 #[.int .i64 4, .int .i64 n, .int .i64 k, .int .i64 0, .int .i64 l] w0 fun e w' => e = .returned (.tuple #[.int .i64 0, .int .i64 0, .int .i64 52]) ∧ Below w0.heap.size w0 w' := by
  have ws1 : IntKind.i64.wrap (s - k) = s - k := by rw [IntKind.wrap_i64]; omega
  have ws2 : IntKind.i64.wrap (s - l) = s - l := by rw [IntKind.wrap_i64]; omega
  go_enter Tryd.func24, Tryd.ntmps24
  go_wp2_with fail
  refine (HA.out _).mono ?_
  rintro e w1 ⟨A1, c1, rfl, hr1, hl1, hc1, hbw1⟩
  have Bw1 : Below w0.heap.size w0 w1 := (by repeat (with_reducible (first | exact Below.refl _ _ | assumption | apply ba | apply bd | apply bdr | (refine bs ?_ (by first | assumption | (simp; done) | (simp; omega))) | (refine bt ?_ (by assumption)))))
  have z1 := Bw1.size
  go_wp2_with fail
  refine (HB.out _).mono ?_
  rintro e w2 ⟨A2, c2, rfl, hr2, hl2, hc2, hbw2⟩
  have Tw2 : Below w1.heap.size w1 w2 := (by repeat (with_reducible (first | exact Below.refl _ _ | assumption | apply ba | apply bd | apply bdr | (refine bs ?_ (by first | assumption | (simp; done) | (simp; omega))) | (refine bt ?_ (by assumption)))))
  have Bw2 : Below w0.heap.size w0 w2 := (by repeat (with_reducible (first | exact Below.refl _ _ | assumption | apply ba | apply bd | apply bdr | (refine bs ?_ (by first | assumption | (simp; done) | (simp; omega))) | (refine bt ?_ (by assumption)))))
  have O3 : Own w2 w1.heap.size (.bool na) (.slice A1 a.length c1) := Own.call (Own.new_at rfl) hbw2
  have ra := hr1.call Tw2
  obtain ⟨_, _, _, _⟩ := id O3
  have z2 := Tw2.size
  have y2 := O3.lt
  go_wp2_with fail
  refine (HX.out _ _ _ (ra.call (by repeat (with_reducible (first | exact Below.refl _ _ | assumption | apply ba | apply bd | apply bdr | (refine bs ?_ (by first | assumption | (simp; done) | (simp; omega))) | (refine bt ?_ (by assumption)))))) hl1 hc1).mono ?_
  rintro e w3 ⟨A3, c3, rfl, hr3, hl3, hc3, hbw3⟩
  have Tw3 : Below w2.heap.size w2 w3 := (by repeat (with_reducible (first | exact Below.refl _ _ | assumption | apply ba | apply bd | apply bdr | (refine bs ?_ (by first | assumption | (simp; done) | (simp; omega))) | (refine bt ?_ (by assumption)))))
  have Bw3 : Below w0.heap.size w0 w3 := (by repeat (with_reducible (first | exact Below.refl _ _ | assumption | apply ba | apply bd | apply bdr | (refine bs ?_ (by first | assumption | (simp; done) | (simp; omega))) | (refine bt ?_ (by assumption)))))
  have P3 := O3.call Tw3
  have O4 : Own w3 w2.heap.size (.bool nb) (.slice A2 b.length c2) := Own.call (Own.new_at rfl) hbw3
  have rb := hr2.call Tw3
  have ra3 := ra.call Tw3
  obtain ⟨_, _, _, _⟩ := id P3
  obtain ⟨_, _, _, _⟩ := id O4
  have z3 := Tw3.size
  have y31 := P3.lt
  have y32 := O4.lt
  clear O3 ra
  go_wp2_with fail
  refine (HY.out _ _ _ (rb.call (by repeat (with_reducible (first | exact Below.refl _ _ | assumption | apply ba | apply bd | apply bdr | (refine bs ?_ (by first | assumption | (simp; done) | (simp; omega))) | (refine bt ?_ (by assumption)))))) hl2 hc2).mono ?_
  rintro e w4 ⟨A4, c4, rfl, hr4, hl4, hc4, hbw4⟩
  have Tw4 : Below w3.heap.size w3 w4 := (by repeat (with_reducible (first | exact Below.refl _ _ | assumption | apply ba | apply bd | apply bdr | (refine bs ?_ (by first | assumption | (simp; done) | (simp; omega))) | (refine bt ?_ (by assumption)))))
  have Bw4 : Below w0.heap.size w0 w4 := (by repeat (with_reducible (first | exact Below.refl _ _ | assumption | apply ba | apply bd | apply bdr | (refine bs ?_ (by first | assumption | (simp; done) | (simp; omega))) | (refine bt ?_ (by assumption)))))
  have Q3 := P3.call Tw4
  have P4 := O4.call Tw4
  have O6 : Own w4 w3.heap.size (.bool na) (.slice A3 x.length c3) := Own.call (Own.new_at rfl) hbw4
  have rx := hr3.call Tw4
  have rb4 := rb.call Tw4
  have ra4 := ra3.call Tw4
  obtain ⟨_, _, _, _⟩ := id Q3
  obtain ⟨_, _, _, _⟩ := id P4
  obtain ⟨_, _, _, _⟩ := id O6
  have z4 := Tw4.size
  have y41 := Q3.lt
  have y42 := P4.lt
  have y43 := O6.lt
  clear P3 O4 rb ra3
  go_wp2
  exact bodyPost_ret (v := .tuple #[.int .i64 0, .int .i64 0, .int .i64 52]) (by simp [results, Tryd.results24, go_sem]) rfl ⟨rfl, (by repeat (with_reducible (first | exact Below.refl _ _ | assumption | apply ba | apply bd | apply bdr | (refine bs ?_ (by first | assumption | (simp; done) | (simp; omega))) | (refine bt ?_ (by assumption)))))⟩
theorem do_z5 (n k l s : Int) (na nb : Bool) (a b x y : List Int) (w0 : World) (hs : max k l = s) (hk : 0 ≤ s - k ∧ s - k ≤ 9) (hl : 0 ≤ s - l ∧ s - l ≤ 9) (_hkl : 0 ≤ k ∧ k ≤ 9 ∧ 0 ≤ l ∧ l ≤ 9)  (HA : Hid (OfC n na a)) (HB : Hid (OfC 0 nb b)) (HX : Hid (UpC na a x (s - k))) (HY : Hid (UpC nb b y (s - l)))  :
    Calls Tryd.prog 24 #[.int .i64 5, .int .i64 n, .int .i64 k, .int .i64 0, .int .i64 l] w0 fun e w' => e = .returned (.tuple #[.int .i64 0, .int .i64 0, .int .i64 52]) ∧ Below w0.heap.size w0 w' := by
  have ws1 : IntKind.i64.wrap (s - k) = s - k := by rw [IntKind.wrap_i64]; omega
  have ws2 : IntKind.i64.wrap (s - l) = s - l := by rw [IntKind.wrap_i64]; omega
  go_enter Tryd.func24, Tryd.ntmps24
  go_wp2_with fail
  refine (HA.out _).mono ?_
  rintro e w1 ⟨A1, c1, rfl, hr1, hl1, hc1, hbw1⟩
  have Bw1 : Below w0.heap.size w0 w1 := (by repeat (with_reducible (first | exact Below.refl _ _ | assumption | apply ba | apply bd | apply bdr | (refine bs ?_ (by first | assumption | (simp; done) | (simp; omega))) | (refine bt ?_ (by assumption)))))
  have z1 := Bw1.size
  go_wp2_with fail
  refine (HB.out _).mono ?_
  rintro e w2 ⟨A2, c2, rfl, hr2, hl2, hc2, hbw2⟩
  have Tw2 : Below w1.heap.size w1 w2 := (by repeat (with_reducible (first | exact Below.refl _ _ | assumption | apply ba | apply bd | apply bdr | (refine bs ?_ (by first | assumption | (simp; done) | (simp; omega))) | (refine bt ?_ (by assumption)))))
  have Bw2 : Below w0.heap.size w0 w2 := (by repeat (with_reducible (first | exact Below.refl _ _ | assumption | apply ba | apply bd | apply bdr | (refine bs ?_ (by first | assumption | (simp; done) | (simp; omega))) | (refine bt ?_ (by assumption)))))
  have O3 : Own w2 w1.heap.size (.bool na) (.slice A1 a.length c1) := Own.call (Own.new_at rfl) hbw2
  have ra := hr1.call Tw2
  obtain ⟨_, _, _, _⟩ := id O3
  have z2 := Tw2.size
  have y2 := O3.lt
  go_wp2_with fail
  refine (HX.out _ _ _ (ra.call (by repeat (with_reducible (first | exact Below.refl _ _ | assumption | apply ba | apply bd | apply bdr | (refine bs ?_ (by first | assumption | (simp; done) | (simp; omega))) | (refine bt ?_ (by assumption)))))) hl1 hc1).mono ?_
  rintro e w3 ⟨A3, c3, rfl, hr3, hl3, hc3, hbw3⟩
  have Tw3 : Below w2.heap.size w2 w3 := (by repeat (with_reducible (first | exact Below.refl _ _ | assumption | apply ba | apply bd | apply bdr | (refine bs ?_ (by first | assumption | (simp; done) | (simp; omega))) | (refine bt ?_ (by assumption)))))
  have Bw3 : Below w0.heap.size w0 w3 := (by repeat (with_reducible (first | exact Below.refl _ _ | assumption | apply ba | apply bd | apply bdr | (refine bs ?_ (by first | assumption | (simp; done) | (simp; omega))) | (refine bt ?_ (by assumption)))))
  have P3 := O3.call Tw3
  have O4 : Own w3 w2.heap.size (.bool nb) (.slice A2 b.length c2) := Own.call (Own.new_at rfl) hbw3
  have rb := hr2.call Tw3
  have ra3 := ra.call Tw3
  obtain ⟨_, _, _, _⟩ := id P3
  obtain ⟨_, _, _, _⟩ := id O4
  have z3 := Tw3.size
  have y31 := P3.lt
  have y32 := O4.lt
  clear O3 ra
  go_wp2_with fail
  refine (HY.out _ _ _ (rb.call (by repeat (with_reducible (first | exact Below.refl _ _ | assumption | apply ba | apply bd | apply bdr | (refine bs ?_ (by first | assumption | (simp; done) | (simp; omega))) | (refine bt ?_ (by assumption)))))) hl2 hc2).mono ?_
  rintro e w4 ⟨A4, c4, rfl, hr4, hl4, hc4, hbw4⟩
  have Tw4 : Below w3.heap.size w3 w4 := (by repeat (with_reducible (first | exact Below.refl _ _ | assumption | apply ba | apply bd | apply bdr | (refine bs ?_ (by first | assumption | (simp; done) | (simp; omega))) | (refine bt ?_ (by assumption)))))
  have Bw4 : Below w0.heap.size w0 w4 := (by repeat (with_reducible (first | exact Below.refl _ _ | assumption | apply ba | apply bd | apply bdr | (refine bs ?_ (by first | assumption | (simp; done) | (simp; omega))) | (refine bt ?_ (by assumption)))))
  have Q3 := P3.call Tw4
  have P4 := O4.call Tw4
  have O6 : Own w4 w3.heap.size (.bool na) (.slice A3 x.length c3) := Own.call (Own.new_at rfl) hbw4
  have rx := hr3.call Tw4
  have rb4 := rb.call Tw4
  have ra4 := ra3.call Tw4
  obtain ⟨_, _, _, _⟩ := id Q3
  obtain ⟨_, _, _, _⟩ := id P4
  obtain ⟨_, _, _, _⟩ := id O6
  have z4 := Tw4.size
  have y41 := Q3.lt
  have y42 := P4.lt
  have y43 := O6.lt
  clear P3 O4 rb ra3
  go_wp2
  exact bodyPost_ret (v := .tuple #[.int .i64 0, .int .i64 0, .int .i64 52]) (by simp [results, Tryd.results24, go_sem]) rfl ⟨rfl, (by repeat (with_reducible (first | exact Below.refl _ _ | assumption | apply ba | apply bd | apply bdr | (refine bs ?_ (by first | assumption | (simp; done) | (simp; omega))) | (refine bt ?_ (by assumption)))))⟩
end Go.Proofs
