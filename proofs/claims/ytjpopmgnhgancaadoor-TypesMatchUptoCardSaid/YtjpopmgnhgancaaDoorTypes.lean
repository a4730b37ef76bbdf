/- Sequence types in plain words: kinds that climb, counts of none, one and several. No condition beyond what the theorems state. -/
namespace Go.Proofs.YtjpopmgnhgancaaDoor
structure TK where
  i : Nat
  n : List UInt8
instance instTK : DecidableEq TK := fun a b => decidable_of_iff (a.i = b.i ∧ a.n = b.n) (by cases a; cases b; simp)
def aboveN : Nat → Nat
  | 1 => 2 | 2 => 6 | 3 => 6 | 4 => 6 | 5 => 6 | 6 => 13
  | 7 => 12 | 8 => 12 | 9 => 12 | 10 => 12 | 11 => 12 | 12 => 13
  | _ => 13
def upK (k : TK) : TK := if k.n = [] then ⟨aboveN k.i, []⟩ else ⟨k.i, []⟩
def anyK : TK := ⟨13, []⟩
/-- How far it is from a kind to the widest. -/
def farK (k : TK) : Nat := (match k.i with | 1 => 3 | 2 => 2 | 3 => 2 | 4 => 2 | 5 => 2 | 6 => 1 | 7 => 2 | 8 => 2 | 9 => 2 | 10 => 2 | 11 => 2 | 12 => 1 | _ => 0) + (if k.n = [] then 0 else 1)
def GK (k : TK) : Prop := k.i ≤ 13 ∧ (k.n ≠ [] → k.i = 8 ∨ k.i = 9)
theorem gk_up {k : TK} (h : GK k) : GK (upK k) := by
  obtain ⟨i, n⟩ := k
  obtain ⟨h1, h2⟩ := h
  simp only [upK]
  split
  · refine ⟨?_, fun h => absurd rfl h⟩
    simp only
    have : i = 0 ∨ i = 1 ∨ i = 2 ∨ i = 3 ∨ i = 4 ∨ i = 5 ∨ i = 6 ∨ i = 7 ∨ i = 8 ∨ i = 9 ∨ i = 10 ∨ i = 11 ∨ i = 12 ∨ i = 13 := by simp only at h1; omega
    rcases this with h | h | h | h | h | h | h | h | h | h | h | h | h | h <;> subst h <;> decide
  · exact ⟨h1, fun h => absurd rfl h⟩
theorem far_up {k : TK} (h : GK k) (hk : k ≠ anyK) (h0 : k.i ≠ 0) : farK (upK k) + 1 = farK k := by
  obtain ⟨i, n⟩ := k
  obtain ⟨h1, h2⟩ := h
  simp only at h1 h2 h0
  by_cases hn : n = []
  · subst hn
    have : i = 0 ∨ i = 1 ∨ i = 2 ∨ i = 3 ∨ i = 4 ∨ i = 5 ∨ i = 6 ∨ i = 7 ∨ i = 8 ∨ i = 9 ∨ i = 10 ∨ i = 11 ∨ i = 12 ∨ i = 13 := by omega
    rcases this with h | h | h | h | h | h | h | h | h | h | h | h | h | h <;> subst h
    · exact absurd rfl h0
    all_goals first | rfl | exact absurd rfl hk
  · simp only [upK, farK, hn, if_false]
    rcases h2 hn with h | h <;> subst h <;> rfl
theorem far_zero {k : TK} (h : GK k) (h0 : k.i ≠ 0) : farK k = 0 → k = anyK := by
  obtain ⟨i, n⟩ := k
  obtain ⟨h1, h2⟩ := h
  simp only at h1 h2 h0
  intro hf
  by_cases hn : n = []
  · subst hn
    have : i = 0 ∨ i = 1 ∨ i = 2 ∨ i = 3 ∨ i = 4 ∨ i = 5 ∨ i = 6 ∨ i = 7 ∨ i = 8 ∨ i = 9 ∨ i = 10 ∨ i = 11 ∨ i = 12 ∨ i = 13 := by omega
    rcases this with h | h | h | h | h | h | h | h | h | h | h | h | h | h <;> subst h
    · exact absurd rfl h0
    all_goals first | rfl | (revert hf; decide)
  · exfalso
    simp only [farK, hn, if_false] at hf
    omega
theorem up_pos {k : TK} (h0 : k.i ≠ 0) : (upK k).i ≠ 0 := by
  obtain ⟨i, n⟩ := k
  simp only [upK]
  split
  · simp only at h0 ⊢
    unfold aboveN
    split <;> simp
  · exact h0
/-- The kinds a kind lies in: itself and all above. -/
def Abv (k o : TK) : Prop := ∃ j, Nat.repeat upK j k = o
theorem rep_comm (f : TK → TK) : ∀ (j : Nat) (k : TK), Nat.repeat f j (f k) = f (Nat.repeat f j k)
  | 0, _ => rfl
  | j+1, k => by rw [Nat.repeat, Nat.repeat, rep_comm f j k]
theorem abv_refl (k : TK) : Abv k k := ⟨0, rfl⟩
theorem abv_up (k : TK) : Abv k (upK k) := ⟨1, rfl⟩
theorem rep_add (f : TK → TK) : ∀ (i j : Nat) (k : TK), Nat.repeat f (i + j) k = Nat.repeat f i (Nat.repeat f j k)
  | 0, j, k => by rw [Nat.zero_add]; rfl
  | i+1, j, k => by rw [Nat.add_right_comm, Nat.repeat, rep_add f i j k, Nat.repeat]
theorem abv_trans {a b c : TK} : Abv a b → Abv b c → Abv a c := by
  rintro ⟨i, rfl⟩ ⟨j, rfl⟩
  exact ⟨j + i, rep_add upK j i a⟩
theorem up_any : upK anyK = anyK := rfl
theorem rep_any : ∀ j, Nat.repeat upK j anyK = anyK
  | 0 => rfl
  | j+1 => by rw [Nat.repeat, rep_any j, up_any]
theorem abv_any : ∀ (n : Nat) {k : TK}, GK k → k.i ≠ 0 → farK k = n → Abv k anyK
  | 0, k, h, h0, hf => far_zero h h0 hf ▸ abv_refl k
  | n+1, k, h, h0, hf => by
    have hk : k ≠ anyK := by rintro rfl; exact absurd hf (by show ¬(0 = n+1); omega)
    exact abv_trans (abv_up k) (abv_any n (gk_up h) (up_pos h0) (by have := far_up h hk h0; omega))
theorem gk_rep {k : TK} (h : GK k) : ∀ j, GK (Nat.repeat upK j k)
  | 0 => h
  | j+1 => gk_up (gk_rep h j)
theorem pos_rep {k : TK} (h0 : k.i ≠ 0) : ∀ j, (Nat.repeat upK j k).i ≠ 0
  | 0 => h0
  | j+1 => up_pos (pos_rep h0 j)
/-- Above is an order: far grows less. -/
theorem abv_far {k : TK} (h : GK k) (h0 : k.i ≠ 0) : ∀ j, Nat.repeat upK j k = k ∨ farK (Nat.repeat upK j k) < farK k
  | 0 => .inl rfl
  | j+1 => by
    show upK (Nat.repeat upK j k) = k ∨ farK (upK (Nat.repeat upK j k)) < farK k
    by_cases ha : Nat.repeat upK j k = anyK
    · rw [ha, up_any]
      rcases abv_far h h0 j with e | e
      · left; rw [← e, ha]
      · right; rw [← ha]; exact e
    · have := far_up (gk_rep h j) ha (pos_rep h0 j)
      right
      rcases abv_far h h0 j with e | e
      · rw [e] at this ⊢; omega
      · omega
theorem abv_anti {a b : TK} (ha : GK a) (h0 : a.i ≠ 0) (hab : Abv a b) (hba : Abv b a) : a = b := by
  obtain ⟨i, rfl⟩ := hab
  obtain ⟨j, hj⟩ := hba
  rcases abv_far ha h0 i with e | e
  · exact e.symm
  · exfalso
    rcases abv_far (gk_rep ha i) (pos_rep h0 i) j with e' | e'
    · rw [hj] at e'; rw [← e'] at e; exact Nat.lt_irrefl _ e
    · rw [hj] at e'; omega
/-- Two above one lie one above the other. -/
theorem abv_chain {k a b : TK} (ha : Abv k a) (hb : Abv k b) : Abv a b ∨ Abv b a := by
  obtain ⟨i, rfl⟩ := ha
  obtain ⟨j, rfl⟩ := hb
  rcases Nat.le_total i j with h | h
  · left; exact ⟨j - i, by rw [← rep_add, Nat.sub_add_cancel h]⟩
  · right; exact ⟨i - j, by rw [← rep_add, Nat.sub_add_cancel h]⟩
/-- One kind lies in another. -/
def LieK (k o : TK) : Prop := k.i = 0 ∨ Abv k o
theorem gk_no {k : TK} (h : GK k) (h0 : k.i = 0) : k = ⟨0, []⟩ := by
  obtain ⟨i, n⟩ := k
  obtain ⟨h1, h2⟩ := h
  simp only at h0 h2
  subst h0
  by_cases hn : n = []
  · subst hn; rfl
  · rcases h2 hn with h | h <;> exact absurd h (by decide)
theorem up_zero {k : TK} (h : (upK k).i = 0) : k.i = 0 := by
  by_cases h0 : k.i = 0
  · exact h0
  · exact absurd h (up_pos h0)
theorem abv_zero {k o : TK} (h : Abv k o) (h0 : o.i = 0) : k.i = 0 := by
  obtain ⟨j, rfl⟩ := h
  by_cases hk : k.i = 0
  · exact hk
  · exact absurd h0 (pos_rep hk j)
theorem lie_refl (k : TK) : LieK k k := .inr (abv_refl k)
theorem lie_trans {a b c : TK} : LieK a b → LieK b c → LieK a c := by
  rintro (h | h) (g | g)
  · exact .inl h
  · exact .inl h
  · exact .inl (abv_zero h g)
  · exact .inr (abv_trans h g)
theorem lie_anti {a b : TK} (ha : GK a) (hb : GK b) : LieK a b → LieK b a → a = b := by
  rintro h g
  by_cases h0 : a.i = 0
  · have : b.i = 0 := by
      rcases g with g | g
      · exact g
      · exact abv_zero g h0
    rw [gk_no ha h0, gk_no hb this]
  · have h0b : b.i ≠ 0 := by
      intro e
      rcases h with h | h
      · exact h0 h
      · exact h0 (abv_zero h e)
    exact abv_anti ha h0 (h.resolve_left h0) (g.resolve_left h0b)
theorem lie_any {k : TK} (h : GK k) : LieK k anyK := by
  by_cases h0 : k.i = 0
  · exact .inl h0
  · exact .inr (abv_any _ h h0 rfl)
/-- The walk up from a kind to another one, or to the widest. -/
def chaseK : Nat → TK → TK → Bool
  | 0, k, o => decide (k = o)
  | f+1, k, o => if k = o then true else if k = anyK then false else chaseK f (upK k) o
def lieB (k o : TK) : Bool := if k.i = 0 then true else chaseK (farK k) k o
theorem chase_is : ∀ (f : Nat) {k o : TK}, GK k → k.i ≠ 0 → farK k = f → (chaseK f k o = true ↔ Abv k o)
  | 0, k, o, h, h0, hf => by
    rw [chaseK, decide_eq_true_iff]
    have e := far_zero h h0 hf
    subst e
    constructor
    · rintro rfl; exact abv_refl _
    · rintro ⟨j, hj⟩; rw [rep_any] at hj; exact hj
  | f+1, k, o, h, h0, hf => by
    rw [chaseK]
    by_cases e : k = o
    · rw [if_pos e]; subst e; exact ⟨fun _ => abv_refl _, fun _ => rfl⟩
    · have hk : k ≠ anyK := by rintro rfl; exact absurd hf (by show ¬(0 = f+1); omega)
      rw [if_neg e, if_neg hk, chase_is f (gk_up h) (up_pos h0) (by have := far_up h hk h0; omega)]
      constructor
      · exact abv_trans (abv_up k)
      · rintro ⟨j, hj⟩
        cases j with
        | zero => exact absurd hj e
        | succ j => exact ⟨j, by rw [rep_comm]; exact hj⟩
theorem lieB_is {k o : TK} (h : GK k) : lieB k o = true ↔ LieK k o := by
  rw [lieB]
  by_cases h0 : k.i = 0
  · rw [if_pos h0]; exact ⟨fun _ => .inl h0, fun _ => rfl⟩
  · rw [if_neg h0, chase_is _ h h0 rfl]
    exact ⟨.inr, fun g => g.resolve_left h0⟩
/-- The first kind, from one upwards, in which another one lies. -/
def climbK : Nat → TK → TK → TK
  | 0, k, _ => k
  | f+1, k, o => if lieB o k then k else climbK f (upK k) o
def withK (k o : TK) : TK := if k.i = 0 then o else climbK (farK k) k o
theorem climb_is : ∀ (f : Nat) {k o : TK}, GK k → GK o → k.i ≠ 0 → farK k = f →
    GK (climbK f k o) ∧ Abv k (climbK f k o) ∧ LieK o (climbK f k o) ∧ (∀ z, Abv k z → LieK o z → Abv (climbK f k o) z)
  | 0, k, o, h, ho, h0, hf => by
    have e := far_zero h h0 hf
    subst e
    exact ⟨h, abv_refl _, lie_any ho, fun z hz _ => hz⟩
  | f+1, k, o, h, ho, h0, hf => by
    rw [climbK]
    by_cases e : lieB o k = true
    · rw [if_pos e]
      exact ⟨h, abv_refl _, (lieB_is ho).1 e, fun z hz _ => hz⟩
    · rw [if_neg e]
      have hk : k ≠ anyK := by rintro rfl; exact absurd hf (by show ¬(0 = f+1); omega)
      obtain ⟨g1, g2, g3, g4⟩ := climb_is f (o := o) (gk_up h) ho (up_pos h0) (by have := far_up h hk h0; omega)
      refine ⟨g1, abv_trans (abv_up k) g2, g3, fun z hz hl => g4 z ?_ hl⟩
      obtain ⟨j, rfl⟩ := hz
      cases j with
      | zero => exact absurd ((lieB_is ho).2 hl) e
      | succ j => exact ⟨j, by rw [rep_comm]; rfl⟩
theorem with_gk {k o : TK} (h : GK k) (ho : GK o) : GK (withK k o) := by
  rw [withK]
  split
  · exact ho
  · rename_i h0; exact (climb_is _ h ho h0 rfl).1
theorem with_left {k o : TK} (h : GK k) (ho : GK o) : LieK k (withK k o) := by
  rw [withK]
  split
  · rename_i h0; exact .inl h0
  · rename_i h0; exact .inr (climb_is _ h ho h0 rfl).2.1
theorem with_right {k o : TK} (h : GK k) (ho : GK o) : LieK o (withK k o) := by
  rw [withK]
  split
  · exact lie_refl _
  · rename_i h0; exact (climb_is _ h ho h0 rfl).2.2.1
theorem with_least {k o z : TK} (h : GK k) (ho : GK o) (hk : LieK k z) (hl : LieK o z) : LieK (withK k o) z := by
  rw [withK]
  split
  · exact hl
  · rename_i h0; exact .inr ((climb_is _ h ho h0 rfl).2.2.2 z (hk.resolve_left h0) hl)
theorem with_comm {k o : TK} (h : GK k) (ho : GK o) : withK k o = withK o k :=
  lie_anti (with_gk h ho) (with_gk ho h) (with_least h ho (with_right ho h) (with_left ho h)) (with_least ho h (with_right h ho) (with_left h ho))
theorem with_assoc {a b c : TK} (ha : GK a) (hb : GK b) (hc : GK c) : withK (withK a b) c = withK a (withK b c) := by
  have hab := with_gk ha hb
  have hbc := with_gk hb hc
  refine lie_anti (with_gk hab hc) (with_gk ha hbc) ?_ ?_
  · refine with_least hab hc (with_least ha hb (with_left ha hbc) ?_) ?_
    · exact lie_trans (with_left hb hc) (with_right ha hbc)
    · exact lie_trans (with_right hb hc) (with_right ha hbc)
  · refine with_least ha hbc ?_ (with_least hb hc ?_ (with_right hab hc))
    · exact lie_trans (with_left ha hb) (with_left hab hc)
    · exact lie_trans (with_right ha hb) (with_left hab hc)
theorem with_self {a : TK} (ha : GK a) : withK a a = a := lie_anti (with_gk ha ha) ha (with_least ha ha (lie_refl a) (lie_refl a)) (with_left ha ha)
theorem with_no {a : TK} : withK ⟨0, []⟩ a = a := by rw [withK]; rfl
theorem with_zero {a b : TK} (ha : GK a) (hb : GK b) : (withK a b).i = 0 ↔ a.i = 0 ∧ b.i = 0 := by
  constructor
  · intro h
    have e1 := with_left ha hb
    have e2 := with_right ha hb
    exact ⟨e1.elim id fun g => abv_zero g h, e2.elim id fun g => abv_zero g h⟩
  · rintro ⟨h1, h2⟩
    rw [withK, if_pos h1]; exact h2
end Go.Proofs.YtjpopmgnhgancaaDoor
namespace Go.Proofs.YtjpopmgnhgancaaDoor
abbrev CTy := Nat × Nat
def cz (z : Bool) (o : Nat) : CTy := if z then (0, 0) else match o with | 0 => (1, 1) | 1 => (0, 1) | 2 => (1, 2) | _ => (0, 2)
def occC (c : CTy) : Nat := if c.2 < 2 ∧ 0 < c.1 then 0 else if c.2 < 2 then 1 else if 0 < c.1 then 2 else 3
def orC (a b : CTy) : CTy := (min a.1 b.1, max a.2 b.2)
def plusC (a b : CTy) : CTy := (min (a.1 + b.1) 2, min (a.2 + b.2) 2)
def timesC (a b : CTy) : CTy := (min (a.1 * b.1) 2, min (a.2 * b.2) 2)
def inC (a b : CTy) : Bool := decide (b.1 ≤ a.1) && decide (a.2 ≤ b.2)
structure TT where
  k : TK
  o : Nat
def GT (t : TT) : Prop := GK t.k ∧ t.o ≤ 3
def zT (t : TT) : Bool := decide (t.k.i = 0)
def cT (t : TT) : CTy := cz (zT t) t.o
def emptyT : TT := ⟨⟨0, []⟩, 3⟩
def madeT (k : TK) (c : CTy) : TT := if k.i = 0 then emptyT else ⟨k, occC c⟩
def noK : TK := ⟨0, []⟩
def kAll (ts : List TT) (k : TK) : TK := ts.foldl (fun k t => withK k t.k) k
def cAll (f : CTy → CTy → CTy) (ts : List TT) (c : CTy) : CTy := ts.foldl (fun c t => f c (cT t)) c
def eitherT (ts : List TT) : TT := madeT (kAll ts noK) (cAll orC ts (2, 0))
def joinT (ts : List TT) : TT := madeT (kAll ts noK) (cAll plusC ts (0, 0))
def timesT (a b : TT) : TT := madeT (if a.k.i = 0 then noK else b.k) (timesC (cT a) (cT b))
def subT (a b : TT) : Bool := inC (cT a) (cT b) && lieB a.k b.k
theorem gk_noK : GK noK := ⟨by decide, fun h => absurd rfl h⟩
theorem occ_le (c : CTy) : occC c ≤ 3 := by
  unfold occC
  split
  · decide
  · split
    · decide
    · split <;> decide
theorem gt_made {k : TK} {c : CTy} (h : GK k) : GT (madeT k c) := by
  rw [madeT]
  split
  · exact ⟨gk_noK, by decide⟩
  · exact ⟨h, occ_le c⟩
theorem k_made {k : TK} {c : CTy} (h : GK k) : (madeT k c).k = k := by
  rw [madeT]
  split
  · rename_i h0; exact (gk_no h h0).symm
  · rfl
theorem z_made {k : TK} {c : CTy} : zT (madeT k c) = decide (k.i = 0) := by
  rw [madeT]
  split
  · rename_i h0; rw [h0]; rfl
  · rfl
theorem c_made {k : TK} {c : CTy} : cT (madeT k c) = cz (decide (k.i = 0)) (occC c) := by
  rw [cT, z_made]
  by_cases h0 : k.i = 0
  · simp only [h0, decide_true, cz, if_true]
  · simp only [h0, decide_false, cz, Bool.false_eq_true, if_false, madeT]
theorem made_congr {k k' : TK} {c c' : CTy} (hk : k = k') (hc : k.i ≠ 0 → occC c = occC c') : madeT k c = madeT k' c' := by
  subst hk
  rw [madeT, madeT]
  split
  · rfl
  · rename_i h; rw [hc h]
theorem gt_either : ∀ (ts : List TT), (∀ t ∈ ts, GT t) → ∀ k, GK k → GK (kAll ts k)
  | [], _, _k, h => h
  | t :: ts, ht, _k, h => gt_either ts (fun x hx => ht x (List.mem_cons_of_mem _ hx)) _ (with_gk h (ht t (List.mem_cons_self ..)).1)
theorem either2 (a b : TT) : eitherT [a, b] = madeT (withK a.k b.k) (orC (orC (2, 0) (cT a)) (cT b)) := by
  show madeT (withK (withK noK a.k) b.k) _ = _
  rw [noK, with_no]; rfl
theorem join2 (a b : TT) : joinT [a, b] = madeT (withK a.k b.k) (plusC (plusC (0, 0) (cT a)) (cT b)) := by
  show madeT (withK (withK noK a.k) b.k) _ = _
  rw [noK, with_no]; rfl
theorem fin4 {P : Nat → Prop} (h : ∀ o : Fin 4, P o.1) {o : Nat} (ho : o ≤ 3) : P o := h ⟨o, by omega⟩
theorem or_comm5 : ∀ (za zb : Bool) (oa ob : Fin 4), orC (orC (2, 0) (cz za oa.1)) (cz zb ob.1) = orC (orC (2, 0) (cz zb ob.1)) (cz za oa.1) := by decide
theorem plus_comm5 : ∀ (za zb : Bool) (oa ob : Fin 4), plusC (plusC (0, 0) (cz za oa.1)) (cz zb ob.1) = plusC (plusC (0, 0) (cz zb ob.1)) (cz za oa.1) := by decide
def f4 {o : Nat} (h : o ≤ 3) : Fin 4 := ⟨o, by omega⟩
theorem either_comm {a b : TT} (ha : GT a) (hb : GT b) : eitherT [a, b] = eitherT [b, a] := by
  rw [either2, either2]
  exact made_congr (with_comm ha.1 hb.1) fun _ => congrArg occC (or_comm5 (zT a) (zT b) (f4 ha.2) (f4 hb.2))
theorem join_comm {a b : TT} (ha : GT a) (hb : GT b) : joinT [a, b] = joinT [b, a] := by
  rw [join2, join2]
  exact made_congr (with_comm ha.1 hb.1) fun _ => congrArg occC (plus_comm5 (zT a) (zT b) (f4 ha.2) (f4 hb.2))
theorem or_assoc5 : ∀ (za zb zc : Bool) (oa ob oc : Fin 4),
    occC (orC (orC (2, 0) (cz (za && zb) (occC (orC (orC (2, 0) (cz za oa.1)) (cz zb ob.1))))) (cz zc oc.1)) =
    occC (orC (orC (2, 0) (cz za oa.1)) (cz (zb && zc) (occC (orC (orC (2, 0) (cz zb ob.1)) (cz zc oc.1))))) := by decide
theorem plus_assoc5 : ∀ (za zb zc : Bool) (oa ob oc : Fin 4),
    occC (plusC (plusC (0, 0) (cz (za && zb) (occC (plusC (plusC (0, 0) (cz za oa.1)) (cz zb ob.1))))) (cz zc oc.1)) =
    occC (plusC (plusC (0, 0) (cz za oa.1)) (cz (zb && zc) (occC (plusC (plusC (0, 0) (cz zb ob.1)) (cz zc oc.1))))) := by decide
theorem z_with {a b : TT} (ha : GT a) (hb : GT b) : decide ((withK a.k b.k).i = 0) = (zT a && zT b) := by
  have := with_zero ha.1 hb.1
  by_cases h : (withK a.k b.k).i = 0
  · obtain ⟨h1, h2⟩ := this.1 h
    simp only [h, zT, h1, h2, decide_true, Bool.and_self]
  · simp only [h, decide_false, zT]
    symm
    by_cases h1 : a.k.i = 0
    · by_cases h2 : b.k.i = 0
      · exact absurd (this.2 ⟨h1, h2⟩) h
      · simp only [h2, decide_false, Bool.and_false]
    · simp only [h1, decide_false, Bool.false_and]
theorem either_assoc {a b c : TT} (ha : GT a) (hb : GT b) (hc : GT c) : eitherT [eitherT [a, b], c] = eitherT [a, eitherT [b, c]] := by
  rw [either2 (eitherT [a, b]) c, either2 a (eitherT [b, c]), either2 a b, either2 b c, k_made (with_gk ha.1 hb.1), k_made (with_gk hb.1 hc.1), c_made, c_made, z_with ha hb, z_with hb hc]
  exact made_congr (with_assoc ha.1 hb.1 hc.1) fun _ => or_assoc5 (zT a) (zT b) (zT c) (f4 ha.2) (f4 hb.2) (f4 hc.2)
theorem join_assoc {a b c : TT} (ha : GT a) (hb : GT b) (hc : GT c) : joinT [joinT [a, b], c] = joinT [a, joinT [b, c]] := by
  rw [join2 (joinT [a, b]) c, join2 a (joinT [b, c]), join2 a b, join2 b c, k_made (with_gk ha.1 hb.1), k_made (with_gk hb.1 hc.1), c_made, c_made, z_with ha hb, z_with hb hc]
  exact made_congr (with_assoc ha.1 hb.1 hc.1) fun _ => plus_assoc5 (zT a) (zT b) (zT c) (f4 ha.2) (f4 hb.2) (f4 hc.2)
theorem or_self5 : ∀ (oa : Fin 4), occC (orC (orC (2, 0) (cz false oa.1)) (cz false oa.1)) = oa.1 := by decide
theorem times_self5 : ∀ (oa : Fin 4), occC (timesC (1, 1) (cz false oa.1)) = oa.1 := by decide
/-- A type as it is written: of no items always with Star. -/
def plainT (a : TT) : TT := if a.k.i = 0 then emptyT else a
theorem either_self {a : TT} (ha : GT a) : eitherT [a, a] = plainT a := by
  rw [either2, with_self ha.1, madeT, plainT]
  split
  · rfl
  · rename_i h0
    have e : cT a = cz false a.o := by rw [cT, zT]; simp only [h0, decide_false]
    have h5 : occC (orC (orC (2, 0) (cz false a.o)) (cz false a.o)) = a.o := or_self5 (f4 ha.2)
    rw [e, h5]
theorem times_one {a : TT} (ha : GT a) (s : TT) (hs : s.k.i ≠ 0) (ho : s.o = 0) : timesT s a = plainT a := by
  rw [timesT, if_neg hs, madeT, plainT]
  split
  · rfl
  · rename_i h0
    have e : cT a = cz false a.o := by rw [cT, zT]; simp only [h0, decide_false]
    have e' : cT s = (1, 1) := by rw [cT, zT, ho]; simp only [hs, decide_false]; rfl
    have h5 : occC (timesC (1, 1) (cz false a.o)) = a.o := times_self5 (f4 ha.2)
    rw [e, e', h5]
theorem in_refl (c : CTy) : inC c c = true := by simp [inC]
theorem c_plain (a : TT) : cT (plainT a) = cT a := by
  rw [plainT]
  split
  · rename_i h0
    have e : zT a = true := by rw [zT, h0]; rfl
    rw [cT, cT, e]; rfl
  · rfl
theorem k_plain {a : TT} (ha : GT a) : (plainT a).k = a.k := by
  rw [plainT]
  split
  · rename_i h0; exact (gk_no ha.1 h0).symm
  · rfl
theorem sub_self_plain {a : TT} (ha : GT a) : subT a (plainT a) = true ∧ subT (plainT a) a = true := by
  have h : lieB a.k a.k = true := (lieB_is ha.1).2 (lie_refl _)
  constructor
  · rw [subT, c_plain, k_plain ha, in_refl, h]; rfl
  · rw [subT, c_plain, k_plain ha, in_refl, h]; rfl
end Go.Proofs.YtjpopmgnhgancaaDoor
