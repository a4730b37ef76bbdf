/- Plain facts: the order of bytes is the order of characters. No condition beyond what the theorems state. -/
import Derived.Test.YtklkodifbdpihaaDoorMathL
import Derived.Test.YtklkodifbdpihaaDoorInts
namespace Go.Proofs.YtklkodifbdpihaaDoor
open Go.RowKit Go.Lib
theorem lt_iff (a b : UInt8) : a < b ↔ a.toNat < b.toNat := UInt8.lt_iff_toNat_lt
theorem cmp_cons (a b : UInt8) (ar br : List UInt8) : compareBytes (a :: ar) (b :: br) = if a.toNat < b.toNat then -1 else if b.toNat < a.toNat then 1 else compareBytes ar br := by
  simp only [compareBytes, lt_iff]
theorem cmp_range : ∀ (a b : List UInt8), compareBytes a b = -1 ∨ compareBytes a b = 0 ∨ compareBytes a b = 1
  | [], [] => .inr (.inl rfl)
  | [], _ :: _ => .inl rfl
  | _ :: _, [] => .inr (.inr rfl)
  | a :: ar, b :: br => by
    rw [cmp_cons]
    split
    · exact .inl rfl
    · split
      · exact .inr (.inr rfl)
      · exact cmp_range ar br
theorem cmp_anti : ∀ (a b : List UInt8), compareBytes b a = - compareBytes a b
  | [], [] => rfl
  | [], _ :: _ => rfl
  | _ :: _, [] => rfl
  | a :: ar, b :: br => by
    rw [cmp_cons, cmp_cons, cmp_anti ar br]
    split
    · split
      · omega
      · rfl
    · split <;> rfl
theorem u8_eq {a b : UInt8} (h : a.toNat = b.toNat) : a = b := UInt8.toNat_inj.1 h
theorem cmp_zero : ∀ (a b : List UInt8), compareBytes a b = 0 → a = b
  | [], [], _ => rfl
  | [], _ :: _, h => by cases h
  | _ :: _, [], h => by cases h
  | a :: ar, b :: br, h => by
    rw [cmp_cons] at h
    split at h
    · cases h
    · split at h
      · cases h
      · rw [u8_eq (by omega : a.toNat = b.toNat), cmp_zero ar br h]
theorem cmp_self : ∀ (a : List UInt8), compareBytes a a = 0
  | [] => rfl
  | a :: ar => by rw [cmp_cons, if_neg (by omega), if_neg (by omega), cmp_self ar]
theorem cmp_trans : ∀ (a b c : List UInt8), compareBytes a b = -1 → compareBytes b c = -1 → compareBytes a c = -1
  | [], [], _, h, _ => by cases h
  | [], _ :: _, [], _, h => by cases h
  | [], _ :: _, _ :: _, _, _ => rfl
  | _ :: _, [], _, h, _ => by cases h
  | _ :: _, _ :: _, [], _, h => by cases h
  | a :: ar, b :: br, c :: cr, h1, h2 => by
    rw [cmp_cons] at h1 h2 ⊢
    split at h1
    · split at h2
      · rw [if_pos (by omega)]
      · split at h2
        · cases h2
        · rw [if_pos (by omega)]
    · split at h1
      · cases h1
      · split at h2
        · rw [if_pos (by omega)]
        · split at h2
          · cases h2
          · rw [if_neg (by omega), if_neg (by omega)]
            exact cmp_trans ar br cr h1 h2
def cmpN : List Nat → List Nat → Int
  | [], [] => 0
  | [], _ :: _ => -1
  | _ :: _, [] => 1
  | a :: ar, b :: br => if a < b then -1 else if b < a then 1 else cmpN ar br
theorem cmpN_self : ∀ (a : List Nat), cmpN a a = 0
  | [] => rfl
  | a :: ar => by rw [cmpN, if_neg (by omega), if_neg (by omega), cmpN_self ar]
theorem cmp_prefix : ∀ (p a b : List UInt8), compareBytes (p ++ a) (p ++ b) = compareBytes a b
  | [], _, _ => rfl
  | x :: p, a, b => by rw [List.cons_append, List.cons_append, cmp_cons, if_neg (by omega), if_neg (by omega), cmp_prefix p a b]
/-- encodings stand in the order of their numbers -/
theorem enc_lt (r t : Nat) (hr : runeOk r) (ht : runeOk t) (h : r < t) (a b : List UInt8) : compareBytes (enc r ++ a) (enc t ++ b) = -1 := by
  have key : ∀ (x y : Nat) (xs ys : List UInt8), x < 256 → y < 256 → x < y → compareBytes (x.toUInt8 :: xs) (y.toUInt8 :: ys) = -1 := by
    intro x y xs ys hx hy hxy
    rw [cmp_cons, u8N x hx, u8N y hy, if_pos hxy]
  have same : ∀ (x y : Nat) (xs ys : List UInt8), x < 256 → x = y → compareBytes (x.toUInt8 :: xs) (y.toUInt8 :: ys) = compareBytes xs ys := by
    intro x y xs ys hx hxy
    subst hxy
    rw [cmp_cons, if_neg (by omega), if_neg (by omega)]
  have hr2 : r ≤ 1114111 := by unfold runeOk at hr; omega
  have ht2 : t ≤ 1114111 := by unfold runeOk at ht; omega
  rw [encZ r hr, encZ t ht]
  by_cases r1 : r ≤ 127
  · rw [if_pos r1]
    by_cases t1 : t ≤ 127
    · rw [if_pos t1]; exact key _ _ _ _ (by omega) (by omega) h
    · rw [if_neg t1]
      by_cases t2 : t ≤ 2047
      · rw [if_pos t2]; exact key _ _ _ _ (by omega) (by omega) (by omega)
      · rw [if_neg t2]
        by_cases t3 : t ≤ 65535
        · rw [if_pos t3]; exact key _ _ _ _ (by omega) (by omega) (by omega)
        · rw [if_neg t3]; exact key _ _ _ _ (by omega) (by omega) (by omega)
  · rw [if_neg r1, if_neg (by omega : ¬ t ≤ 127)]
    by_cases r2 : r ≤ 2047
    · rw [if_pos r2]
      by_cases t2 : t ≤ 2047
      · rw [if_pos t2]
        by_cases e1 : 192 + r / 64 < 192 + t / 64
        · exact key _ _ _ _ (by omega) (by omega) e1
        · simp only [List.cons_append]
          rw [same _ _ _ _ (by omega) (by omega)]
          exact key _ _ _ _ (by omega) (by omega) (by omega)
      · rw [if_neg t2]
        by_cases t3 : t ≤ 65535
        · rw [if_pos t3]; exact key _ _ _ _ (by omega) (by omega) (by omega)
        · rw [if_neg t3]; exact key _ _ _ _ (by omega) (by omega) (by omega)
    · rw [if_neg r2, if_neg (by omega : ¬ t ≤ 2047)]
      by_cases r3 : r ≤ 65535
      · rw [if_pos r3]
        by_cases t3 : t ≤ 65535
        · rw [if_pos t3]
          by_cases e1 : 224 + r / 4096 < 224 + t / 4096
          · exact key _ _ _ _ (by omega) (by omega) e1
          · simp only [List.cons_append]
            rw [same _ _ _ _ (by omega) (by omega)]
            by_cases e2 : 128 + r / 64 % 64 < 128 + t / 64 % 64
            · exact key _ _ _ _ (by omega) (by omega) e2
            · rw [same _ _ _ _ (by omega) (by omega)]
              exact key _ _ _ _ (by omega) (by omega) (by omega)
        · rw [if_neg t3]; exact key _ _ _ _ (by omega) (by omega) (by omega)
      · rw [if_neg r3, if_neg (by omega : ¬ t ≤ 65535)]
        by_cases e1 : 240 + r / 262144 < 240 + t / 262144
        · exact key _ _ _ _ (by omega) (by omega) e1
        · simp only [List.cons_append]
          rw [same _ _ _ _ (by omega) (by omega)]
          by_cases e2 : 128 + r / 4096 % 64 < 128 + t / 4096 % 64
          · exact key _ _ _ _ (by omega) (by omega) e2
          · rw [same _ _ _ _ (by omega) (by omega)]
            by_cases e3 : 128 + r / 64 % 64 < 128 + t / 64 % 64
            · exact key _ _ _ _ (by omega) (by omega) e3
            · rw [same _ _ _ _ (by omega) (by omega)]
              exact key _ _ _ _ (by omega) (by omega) (by omega)
theorem enc_head (r : Nat) (h : runeOk r) (a : List UInt8) : ∃ b t, enc r ++ a = b :: t := by
  rw [encZ r h]
  split
  · exact ⟨_, _, rfl⟩
  · split
    · exact ⟨_, _, rfl⟩
    · split
      · exact ⟨_, _, rfl⟩
      · exact ⟨_, _, rfl⟩
theorem fl_cons (r : Nat) (t : List Nat) : fl (r :: t) = enc r ++ fl t := by simp [fl]
theorem cmp_fl : ∀ (a b : List Nat), (∀ r ∈ a, runeOk r) → (∀ r ∈ b, runeOk r) → compareBytes (fl a) (fl b) = cmpN a b
  | [], [], _, _ => rfl
  | [], t :: b, _, h => by
    obtain ⟨x, y, e⟩ := enc_head t (h t (by simp)) (fl b)
    rw [fl_cons, e]; rfl
  | r :: a, [], h, _ => by
    obtain ⟨x, y, e⟩ := enc_head r (h r (by simp)) (fl a)
    rw [fl_cons, e]; rfl
  | r :: a, t :: b, h1, h2 => by
    have hr := h1 r (by simp)
    have ht := h2 t (by simp)
    rw [fl_cons, fl_cons, cmpN]
    by_cases c : r < t
    · rw [if_pos c, enc_lt r t hr ht c]
    · rw [if_neg c]
      by_cases d : t < r
      · rw [if_pos d, cmp_anti, enc_lt t r ht hr d]; rfl
      · rw [if_neg d]
        have e : r = t := by omega
        subst e
        rw [cmp_prefix]
        exact cmp_fl a b (fun x hx => h1 x (by simp [hx])) (fun x hx => h2 x (by simp [hx]))
theorem cmp_runes {a b : List UInt8} (ha : validD a = true) (hb : validD b = true) : compareBytes a b = cmpN (runes a) (runes b) := by
  rw [← cmp_fl _ _ (runes_ok _ a (Nat.le_refl _) ha) (runes_ok _ b (Nat.le_refl _) hb)]
  have e1 := flat_runes ha
  have e2 := flat_runes hb
  unfold fl
  rw [e1, e2]
theorem cmpN_at (a b : List Nat) (k : Nat) (ha : k < a.length) (hb : k < b.length) : cmpN (a.drop k) (b.drop k) = if a.getD k 0 < b.getD k 0 then -1 else if b.getD k 0 < a.getD k 0 then 1 else cmpN (a.drop (k + 1)) (b.drop (k + 1)) := by
  rw [List.drop_eq_getElem_cons ha, List.drop_eq_getElem_cons hb, cmpN, List.getD_eq_getElem?_getD, List.getD_eq_getElem?_getD, List.getElem?_eq_getElem ha, List.getElem?_eq_getElem hb]
  rfl
theorem cmpN_end (a b : List Nat) (k : Nat) (h1 : k ≤ a.length) (h2 : k ≤ b.length) (h : k = a.length ∨ k = b.length) : cmpN (a.drop k) (b.drop k) = if a.length < b.length then -1 else if b.length < a.length then 1 else 0 := by
  by_cases c : a.length < b.length
  · rw [if_pos c, List.drop_eq_nil_of_le (by omega : a.length ≤ k), List.drop_eq_getElem_cons (by omega : k < b.length)]; rfl
  · rw [if_neg c]
    by_cases d : b.length < a.length
    · rw [if_pos d, List.drop_eq_nil_of_le (by omega : b.length ≤ k), List.drop_eq_getElem_cons (by omega : k < a.length)]; rfl
    · rw [if_neg d, List.drop_eq_nil_of_le (by omega : a.length ≤ k), List.drop_eq_nil_of_le (by omega : b.length ≤ k)]; rfl
theorem less_cmp : ∀ (a b : List UInt8), Op.bytesLess a b = decide (compareBytes a b < 0)
  | [], [] => rfl
  | [], _ :: _ => rfl
  | _ :: _, [] => rfl
  | a :: ar, b :: br => by
    rw [cmp_cons, Op.bytesLess, less_cmp ar br]
    by_cases c : a.toNat < b.toNat
    · rw [if_pos c, show decide (a < b) = true from by rw [decide_eq_true_iff, lt_iff]; exact c]; rfl
    · rw [if_neg c, show decide (a < b) = false from by rw [decide_eq_false_iff_not, lt_iff]; exact c]
      by_cases d : b.toNat < a.toNat
      · rw [if_pos d, show (a == b) = false from by rw [beq_eq_false_iff_ne]; rintro rfl; omega]; rfl
      · rw [if_neg d, show (a == b) = true from by rw [beq_iff_eq]; exact u8_eq (by omega)]; simp
end Go.Proofs.YtklkodifbdpihaaDoor
