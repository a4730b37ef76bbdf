/- Plain facts on lists of decimal digits, the lowest first. No condition beyond what the theorems state. -/
namespace Go.Proofs.Dig
/-- Decimal digits, the lowest first. -/
def isDig (l : List Int) : Prop := ∀ d ∈ l, 0 ≤ d ∧ d ≤ 9
def val : List Int → Int
  | [] => 0
  | d :: l => d + 10 * val l
theorem p10 (n : Nat) : (0 : Int) < 10 ^ n := Int.pow_pos (by decide)
theorem val_nonneg : ∀ l : List Int, isDig l → 0 ≤ val l
  | [], _ => by simp [val]
  | d :: l, h => by
    have h1 := h d (by simp)
    have h2 := val_nonneg l fun x hx => h x (by simp [hx])
    unfold val; omega
theorem val_lt : ∀ l : List Int, isDig l → val l < 10 ^ l.length
  | [], _ => by simp [val]
  | d :: l, h => by
    have h1 := h d (by simp)
    have h2 := val_lt l fun x hx => h x (by simp [hx])
    rw [List.length_cons, Int.pow_succ]
    unfold val; omega
theorem val_append : ∀ a b : List Int, val (a ++ b) = val a + 10 ^ a.length * val b
  | [], b => by simp [val]
  | d :: a, b => by
    rw [List.cons_append, List.length_cons, Int.pow_succ]
    show d + 10 * val (a ++ b) = d + 10 * val a + 10 ^ a.length * 10 * val b
    rw [val_append a b, Int.mul_add, ← Int.mul_assoc, Int.mul_comm 10 (10 ^ a.length)]
    omega
theorem val_zeros (n : Nat) : val (List.replicate n 0) = 0 := by
  induction n with
  | zero => rfl
  | succ n ih => rw [List.replicate_succ]; unfold val; rw [ih]; rfl
theorem isDig_append {a b : List Int} (ha : isDig a) (hb : isDig b) : isDig (a ++ b) := by
  intro d hd
  rcases List.mem_append.1 hd with h | h
  · exact ha d h
  · exact hb d h
theorem isDig_zeros (n : Nat) : isDig (List.replicate n 0) := by
  intro d hd; rw [List.eq_of_mem_replicate hd]; omega
theorem isDig_take {l : List Int} (h : isDig l) (n : Nat) : isDig (l.take n) := fun d hd => h d (List.mem_of_mem_take hd)
theorem isDig_drop {l : List Int} (h : isDig l) (n : Nat) : isDig (l.drop n) := fun d hd => h d (List.mem_of_mem_drop hd)
/-- Without noughts at the end. -/
def Canon (l : List Int) : Prop := isDig l ∧ (l = [] ∨ 10 ^ (l.length - 1) ≤ val l)
/-- Of two rows in form the value tells the length, and all. -/
theorem canon_len {a b : List Int} (ha : Canon a) (hb : isDig b) (hv : val a ≤ val b) : a.length ≤ b.length := by
  rcases ha.2 with h | h
  · subst h; simp
  · have hlt := val_lt b hb
    rcases Nat.lt_or_ge b.length a.length with hl | hl
    · have e : (10 : Int) ^ b.length ≤ 10 ^ (a.length - 1) := by
        have x : (10 : Nat) ^ b.length ≤ 10 ^ (a.length - 1) := Nat.pow_le_pow_right (by decide) (by omega)
        have e1 : (((10 : Nat) ^ b.length : Nat) : Int) = 10 ^ b.length := by simp
        have e2 : (((10 : Nat) ^ (a.length - 1) : Nat) : Int) = 10 ^ (a.length - 1) := by simp
        rw [← e1, ← e2]; exact Int.ofNat_le.2 x
      omega
    · exact hl
theorem dig_inj : ∀ a b : List Int, isDig a → isDig b → a.length = b.length → val a = val b → a = b
  | [], [], _, _, _, _ => rfl
  | d :: a, e :: b, ha, hb, hl, hv => by
    have h1 := ha d (by simp)
    have h2 := hb e (by simp)
    unfold val at hv
    have hde : d = e := by omega
    subst hde
    rw [dig_inj a b (fun x hx => ha x (by simp [hx])) (fun x hx => hb x (by simp [hx])) (by simpa using hl) (by omega)]
theorem canon_inj {a b : List Int} (ha : Canon a) (hb : Canon b) (hv : val a = val b) : a = b :=
  dig_inj a b ha.1 hb.1 (Nat.le_antisymm (canon_len ha hb.1 (by omega)) (canon_len hb ha.1 (by omega))) hv
/-- The digits of a number. -/
def digs (u : Nat) : List Int := if h : u = 0 then [] else ((u % 10 : Nat) : Int) :: digs (u / 10)
termination_by u
decreasing_by omega
theorem digs_zero : digs 0 = [] := by unfold digs; simp
theorem digs_pos {u : Nat} (h : u ≠ 0) : digs u = ((u % 10 : Nat) : Int) :: digs (u / 10) := by
  conv => lhs; unfold digs
  rw [dif_neg h]
theorem digs_val (u : Nat) : val (digs u) = u ∧ isDig (digs u) ∧ (u ≠ 0 → 10 ^ ((digs u).length - 1) ≤ val (digs u)) := by
  induction u using Nat.strongRecOn with
  | _ u ih =>
    by_cases h : u = 0
    · subst h; rw [digs_zero]; exact ⟨rfl, fun d hd => (by cases hd), fun h => absurd rfl h⟩
    · obtain ⟨a, b, c⟩ := ih (u / 10) (by omega)
      rw [digs_pos h]
      refine ⟨?_, ?_, fun _ => ?_⟩
      · unfold val; rw [a]; omega
      · intro d hd
        rcases List.mem_cons.1 hd with rfl | hd
        · omega
        · exact b d hd
      · rw [List.length_cons, Nat.add_sub_cancel]
        unfold val
        by_cases h0 : u / 10 = 0
        · rw [h0, digs_zero]; simp [val]; omega
        · have hc := c h0
          have hl : (digs (u / 10)).length = (digs (u / 10)).length - 1 + 1 := by
            rw [digs_pos h0, List.length_cons]; omega
          rw [hl, Int.pow_succ]
          omega
theorem digs_canon (u : Nat) : Canon (digs u) := by
  obtain ⟨_, b, c⟩ := digs_val u
  refine ⟨b, ?_⟩
  by_cases h : u = 0
  · left; rw [h, digs_zero]
  · exact .inr (c h)
theorem canon_digs {l : List Int} (h : Canon l) : l = digs (val l).toNat :=
  canon_inj h (digs_canon _) (by rw [(digs_val _).1]; have := val_nonneg l h.1; omega)
/-- Struck off at the end. -/
def trimL (l : List Int) : List Int := (l.reverse.dropWhile (· == 0)).reverse
theorem trim_snoc_zero (l : List Int) : trimL (l ++ [0]) = trimL l := by
  unfold trimL
  rw [List.reverse_append]
  rfl
theorem trim_snoc (l : List Int) (d : Int) (h : d ≠ 0) : trimL (l ++ [d]) = l ++ [d] := by
  unfold trimL
  rw [List.reverse_append]
  have : (([d] : List Int).reverse ++ l.reverse).dropWhile (· == 0) = [d].reverse ++ l.reverse := by
    show (d :: l.reverse).dropWhile (· == 0) = _
    rw [List.dropWhile_cons]
    simp [h]
  rw [this]
  simp
theorem trim_spec (l : List Int) (h : isDig l) : Canon (trimL l) ∧ val (trimL l) = val l ∧ (trimL l).length ≤ l.length ∧ trimL l = l.take (trimL l).length := by
  have key : ∀ n, ∀ l : List Int, l.length = n → isDig l → Canon (trimL l) ∧ val (trimL l) = val l ∧ (trimL l).length ≤ l.length ∧ trimL l = l.take (trimL l).length := by
    intro n
    induction n with
    | zero => intro l hl _; obtain rfl := List.eq_nil_of_length_eq_zero hl; exact ⟨⟨fun d hd => (by cases hd), .inl rfl⟩, rfl, Nat.le_refl _, rfl⟩
    | succ n ih =>
      intro l hl hd
      have hne : l ≠ [] := by intro e; rw [e] at hl; cases hl
      obtain ⟨m, d, rfl⟩ : ∃ m d, l = m ++ [d] := ⟨l.dropLast, l.getLast hne, (List.dropLast_concat_getLast hne).symm⟩
      have hm : m.length = n := by simpa using hl
      have hdm : isDig m := fun x hx => hd x (by simp [hx])
      by_cases h0 : d = 0
      · subst h0
        rw [trim_snoc_zero]
        obtain ⟨a, b, c, e⟩ := ih m hm hdm
        refine ⟨a, by rw [b, val_append]; simp [val], by simp; omega, ?_⟩
        rw [List.take_append_of_le_length c]; exact e
      · rw [trim_snoc m d h0]
        have hdd := hd d (by simp)
        refine ⟨⟨hd, .inr ?_⟩, rfl, Nat.le_refl _, (List.take_length).symm⟩
        rw [val_append, List.length_append]
        simp only [List.length_cons, List.length_nil, Nat.zero_add, Nat.add_sub_cancel]
        have hv := val_nonneg m hdm
        have : (10 : Int) ^ m.length * 1 ≤ 10 ^ m.length * val [d] := Int.mul_le_mul_of_nonneg_left (by simp [val]; omega) (Int.le_of_lt (p10 _))
        omega
  exact key l.length l rfl h
end Go.Proofs.Dig
