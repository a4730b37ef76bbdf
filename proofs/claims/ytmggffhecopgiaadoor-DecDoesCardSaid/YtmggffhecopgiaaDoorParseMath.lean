/- Plain facts on reading a number. No condition beyond what the theorems state. -/
import Derived.Test.YtmggffhecopgiaaDoorRefFormat
namespace Go.Proofs
open Go.Shelf Go.RowKit Go.Proofs.Wide Go.Proofs.Dig
def dgc (c : UInt8) : Int := (c.toNat : Int) - 48
def stepS (s : Option (List Int × Int)) (c : UInt8) : Option (List Int × Int) := match s with
  | none => none
  | some (D, p) => if c = 46 ∧ p < 0 then some (D, D.length) else if isD c = true then some (D ++ [dgc c], p) else none
def scanL (l : List UInt8) : Option (List Int × Int) := l.foldl stepS (some ([], -1))
theorem scan_none (l : List UInt8) : l.foldl stepS none = none := by
  induction l with
  | nil => rfl
  | cons a l ih => exact ih
theorem scan_digits (p : Int) : ∀ (a : List UInt8) (D : List Int), a.all isD = true → a.foldl stepS (some (D, p)) = some (D ++ a.map dgc, p) := by
  intro a
  induction a with
  | nil => intro D _; simp
  | cons c a ih =>
    intro D h
    simp only [List.all_cons, Bool.and_eq_true] at h
    have hc : ¬ (c = 46 ∧ p < 0) := by
      rintro ⟨rfl, _⟩
      exact absurd h.1 (by decide)
    rw [List.foldl_cons, stepS, if_neg hc, if_pos h.1, ih _ h.2]; simp
theorem scan_bad (p : Int) (D : List Int) (c : UInt8) (r : List UInt8) (h : isD c = false) (hp : ¬ (c = 46 ∧ p < 0)) : (c :: r).foldl stepS (some (D, p)) = none := by
  rw [List.foldl_cons, stepS, if_neg hp, h]; simp [scan_none]
theorem dropWhile_head {q : UInt8 → Bool} : ∀ (l : List UInt8) (c : UInt8) (r : List UInt8), l.dropWhile q = c :: r → q c = false := by
  intro l
  induction l with
  | nil => intro c r h; cases h
  | cons a l ih =>
    intro c r h
    rw [List.dropWhile_cons] at h
    split at h
    · exact ih c r h
    · injection h with h1 h2; subst h1; simp_all
/-- What the reference's reading comes to. -/
theorem scan_eq (t : List UInt8) : scanL t = (if (behindL (t.dropWhile isD)).2 ≠ [] then none else some ((t.takeWhile isD ++ (behindL (t.dropWhile isD)).1).map dgc, if t.dropWhile isD = [] then -1 else ((t.takeWhile isD).length : Int))) := by
  have e := List.takeWhile_append_dropWhile (p := isD) (l := t)
  obtain ⟨a, ha⟩ : ∃ a, t.takeWhile isD = a := ⟨_, rfl⟩
  obtain ⟨r, hr⟩ : ∃ r, t.dropWhile isD = r := ⟨_, rfl⟩
  have hall : a.all isD = true := by rw [← ha]; exact all_takeWhile t
  rw [ha, hr] at e ⊢
  unfold scanL
  rw [← e, List.foldl_append, scan_digits _ a [] hall]
  cases r with
  | nil => simp [behindL]
  | cons c r =>
    have hc := dropWhile_head t c r hr
    by_cases hp : c = 46
    · subst hp
      have e2 := List.takeWhile_append_dropWhile (p := isD) (l := r)
      obtain ⟨b, hb⟩ : ∃ b, r.takeWhile isD = b := ⟨_, rfl⟩
      obtain ⟨r2, hr2⟩ : ∃ r2, r.dropWhile isD = r2 := ⟨_, rfl⟩
      have hbl : behindL (46 :: r) = (b, r2) := by unfold behindL; simp [hb, hr2]
      have hball : b.all isD = true := by rw [← hb]; exact all_takeWhile r
      rw [hb, hr2] at e2
      rw [hbl, List.foldl_cons, stepS, if_pos ⟨rfl, by decide⟩, ← e2, List.foldl_append, scan_digits _ b _ hball]
      cases r2 with
      | nil => simp
      | cons d r2 =>
        have hd := dropWhile_head r d r2 hr2
        rw [scan_bad _ _ d r2 hd (by simp)]; simp
    · have hbl : behindL (c :: r) = ([], c :: r) := by unfold behindL; simp [hp]
      rw [hbl, scan_bad _ _ c r hc (by simp [hp])]; simp
theorem vfold : ∀ (l : List UInt8) (v : Int), l.foldl (fun v c => v * 10 + ((c.toNat : Int) - 48)) v = v * 10 ^ l.length + val (l.map dgc).reverse := by
  intro l
  induction l with
  | nil => intro v; simp [val]
  | cons c l ih =>
    intro v
    rw [List.foldl_cons, ih, List.map_cons, List.reverse_cons, val_append, List.length_reverse, List.length_map, List.length_cons, Int.pow_succ]
    have : val [dgc c] = dgc c := by simp [val]
    rw [this, Int.add_mul, Int.mul_assoc, Int.mul_comm 10 (10 ^ l.length)]
    unfold dgc
    rw [Int.mul_comm ((c.toNat : Int) - 48) (10 ^ l.length)]
    omega
theorem valL_val (l : List UInt8) : valL l = val (l.map dgc).reverse := by
  unfold valL; rw [vfold]; omega
theorem valL_app (a b : List UInt8) : valL (a ++ b) = valL a * 10 ^ b.length + valL b := by
  rw [valL_val, valL_val, valL_val, List.map_append, List.reverse_append, val_append, List.length_reverse, List.length_map, Int.mul_comm]; omega
theorem valL_noughts (a : List UInt8) : valL (a.dropWhile (· == 48)) = valL a := by
  induction a with
  | nil => rfl
  | cons c a ih =>
    rw [List.dropWhile_cons]
    split
    · rename_i h
      have : c = 48 := by simpa using h
      subst this
      rw [ih, show (48 :: a) = [48] ++ a from rfl, valL_app]
      have : valL [48] = 0 := by decide
      rw [this]; omega
    · rfl
theorem isDig_dgc (l : List UInt8) (h : l.all isD = true) : isDig (l.map dgc).reverse := by
  intro d hd
  obtain ⟨c, hc, rfl⟩ := List.mem_map.1 (List.mem_reverse.1 hd)
  have := List.all_eq_true.1 h c hc
  unfold isD at this; unfold dgc
  simp at this; omega
theorem norm_big : ∀ (s : Nat) (x : Int), 1000000000000000000 * 10 ^ s ≤ x ∨ x ≤ -(1000000000000000000 * 10 ^ s) → 1000000000000000000 ≤ (norm s x).1 ∨ (norm s x).1 ≤ -1000000000000000000 := by
  intro s
  induction s with
  | zero => intro x h; simp [norm] at h ⊢; exact h
  | succ s ih =>
    intro x h
    have p := p10 s
    have e : (10 : Int) ^ (s + 1) = 10 * 10 ^ s := by rw [Int.pow_succ, Int.mul_comm]
    rw [e] at h
    rw [norm_s']
    split
    · refine ih _ ?_
      omega
    · have : 1000000000000000000 * 1 ≤ 1000000000000000000 * (10 : Int) ^ s := by omega
      show 1000000000000000000 ≤ x ∨ x ≤ -1000000000000000000
      omega
/-- Too many digits ahead of the point: it doesn't fit. -/
theorem fit_big (neg : Bool) (a b : List UInt8) (ha : a.all isD = true) (hb : b.all isD = true) (h : 18 < (a.dropWhile (· == 48)).length) : fitZ (sg neg (valL (a ++ b))) b.length = none := by
  have hA : (1000000000000000000 : Int) ≤ valL a := by
    rw [← valL_noughts]
    obtain ⟨c, r, hcr⟩ : ∃ c r, a.dropWhile (· == 48) = c :: r := by
      cases e : a.dropWhile (· == 48) with
      | nil => rw [e] at h; simp at h
      | cons c r => exact ⟨c, r, rfl⟩
    rw [hcr] at h ⊢
    have hc : c ≠ 48 := by have := dropWhile_head a c r hcr; simpa using this
    have hall : (c :: r).all isD = true := by rw [← hcr]; exact all_drop a ha
    simp only [List.all_cons, Bool.and_eq_true] at hall
    rw [show c :: r = [c] ++ r from rfl, valL_app]
    have h1 : 1 ≤ valL [c] := by
      have := hall.1; unfold isD at this; simp at this
      have hne : c.toNat ≠ 48 := fun e => hc (by rw [← UInt8.toNat_inj]; exact e)
      unfold valL; simp; omega
    have h2 := (valL_bound r hall.2).1
    have hl : 18 ≤ r.length := by simp at h; omega
    obtain ⟨e, he⟩ : ∃ e, r.length = 18 + e := ⟨r.length - 18, by omega⟩
    have h3 : 1 * (10 : Int) ^ r.length ≤ valL [c] * 10 ^ r.length := Int.mul_le_mul_of_nonneg_right h1 (by have := p10 r.length; omega)
    rw [he, Int.pow_add, show (10 : Int) ^ 18 = 1000000000000000000 by decide] at h3
    rw [he, Int.pow_add, show (10 : Int) ^ 18 = 1000000000000000000 by decide]
    have := p10 e
    omega
  have hB := (valL_bound b hb).1
  have hX : 1000000000000000000 * 10 ^ b.length ≤ valL (a ++ b) := by
    rw [valL_app]
    have := Int.mul_le_mul_of_nonneg_right hA (by have := p10 b.length; omega : (0 : Int) ≤ 10 ^ b.length)
    omega
  have hC : 1000000000000000000 * 10 ^ (min b.length 9) ≤ cut (sg neg (valL (a ++ b))) b.length ∨ cut (sg neg (valL (a ++ b))) b.length ≤ -(1000000000000000000 * 10 ^ (min b.length 9)) := by
    by_cases h9 : 9 < b.length
    · rw [cut_sg neg _ _ (by have := p10 b.length; omega) h9, show min b.length 9 = 9 by omega]
      have hd : 1000000000000000000 * 10 ^ 9 ≤ valL (a ++ b) / 10 ^ (b.length - 9) := by
        refine Int.le_ediv_of_mul_le (p10 _) ?_
        rw [Int.mul_assoc, ← Int.pow_add, show 9 + (b.length - 9) = b.length by omega]; exact hX
      unfold sg; split <;> omega
    · rw [show min b.length 9 = b.length by omega]
      unfold cut; rw [if_neg h9]; unfold sg; split <;> omega
  have := norm_big _ _ hC
  unfold fitZ
  rw [if_neg (by omega)]
/-- The digits behind the ninth are cut. -/
theorem fit_cut (neg : Bool) (a b : List UInt8) (ha : a.all isD = true) (hb : b.all isD = true) :
    fitZ (if neg = true then -valL (a.dropWhile (· == 48) ++ b.take 9) else valL (a.dropWhile (· == 48) ++ b.take 9)) (b.take 9).length = fitZ (sg neg (valL (a ++ b))) b.length := by
  have e1 : valL (a.dropWhile (· == 48) ++ b.take 9) = valL (a ++ b.take 9) := by rw [valL_app, valL_app, valL_noughts]
  rw [e1]
  have h0 : 0 ≤ valL (a ++ b) := (valL_bound (a ++ b) (by rw [List.all_append, ha, hb]; rfl)).1
  have e2 : cut (sg neg (valL (a ++ b))) b.length = sg neg (valL (a ++ b.take 9)) := by
    by_cases h9 : 9 < b.length
    · rw [cut_sg neg _ _ h0 h9]
      congr 1
      have eb : a ++ b = (a ++ b.take 9) ++ b.drop 9 := by rw [List.append_assoc, List.take_append_drop]
      have hq := valL_bound (b.drop 9) (by rw [List.all_eq_true]; intro x hx; exact List.all_eq_true.1 hb x (List.mem_of_mem_drop hx))
      rw [eb, valL_app, List.length_drop] at *
      rw [Int.add_comm, Int.add_mul_ediv_right _ _ (by have := p10 (b.length - 9); omega), Int.ediv_eq_zero_of_lt hq.1 hq.2]
      omega
    · unfold cut; rw [if_neg h9, List.take_of_length_le (by omega)]
  unfold fitZ
  rw [e2, List.length_take]
  have e3 : cut (if neg = true then -valL (a ++ b.take 9) else valL (a ++ b.take 9)) (min 9 b.length) = sg neg (valL (a ++ b.take 9)) := by
    unfold cut; rw [if_neg (by omega)]; rfl
  rw [e3, show min (min 9 b.length) 9 = min b.length 9 by omega]
/-- What a text says, with all its digits. -/
def refP (l : List UInt8) : Int × Int × Int := match scanL (signL l).1 with
  | none => (0, 0, 12)
  | some (D, p) => if D = [] then (0, 0, 12) else
    let f := fitZ (sg (signL l).2 (val D.reverse)) (if 0 ≤ p then D.length - p.toNat else 0)
    (outN f, outK f, outE f)
theorem ref_parse (l : List UInt8) : refP l = parseZ l := by
  obtain ⟨t, ht⟩ : ∃ t, (signL l).1 = t := ⟨_, rfl⟩
  unfold refP parseZ
  rw [ht, scan_eq]
  obtain ⟨a, ha⟩ : ∃ a, t.takeWhile isD = a := ⟨_, rfl⟩
  obtain ⟨r, hr⟩ : ∃ r, t.dropWhile isD = r := ⟨_, rfl⟩
  obtain ⟨b, r2, hb⟩ : ∃ b r2, behindL r = (b, r2) := ⟨_, _, rfl⟩
  have hall : a.all isD = true := by rw [← ha]; exact all_takeWhile t
  have hball : b.all isD = true := by
    unfold behindL at hb
    split at hb
    · injection hb with h1 _; rw [← h1]; exact all_takeWhile _
    · injection hb with h1 _; rw [← h1]; rfl
  have hr0 : r = [] → b = [] := by
    rintro rfl
    unfold behindL at hb; simp at hb; exact hb.1
  rw [ha, hr, hb]
  unfold parseP
  by_cases h1 : r2 ≠ []
  · simp [h1]
  · have h1' : r2 = [] := by simpa using h1
    subst h1'
    by_cases h2 : a ++ b = []
    · simp [h2]
    · have h3 : ¬ ((a ++ b).map dgc = []) := by simpa using h2
      simp only [ne_eq, not_true_eq_false, if_false, false_or, h2, h3]
      have hs : (if 0 ≤ (if r = [] then (-1 : Int) else (a.length : Int)) then ((a ++ b).map dgc).length - (if r = [] then (-1 : Int) else (a.length : Int)).toNat else 0) = b.length := by
        by_cases h4 : r = []
        · rw [if_pos h4, if_neg (by decide), hr0 h4]; rfl
        · rw [if_neg h4, if_pos (by omega)]; simp
      rw [hs, ← valL_val]
      by_cases h5 : 18 < (a.dropWhile (· == 48)).length
      · rw [if_pos h5, fit_big _ a b hall hball h5]; rfl
      · rw [if_neg h5, fit_cut _ a b hall hball]
end Go.Proofs
