/- Plain facts on runes: a valid text is the encoding of its runes, and encodings decode. No condition beyond what the theorems state. -/
import Derived.Lib.MapLaws
import Derived.Lib.ValidLaws
import Derived.Lib.FieldsP
namespace Go.Proofs.YtklkodifbdpihaaDoor
open Go.Lib

/-! ### runes -/
def runesGo : Nat → List UInt8 → List Nat
  | 0, _ => []
  | n + 1, l => if l = [] then [] else (decodeL l).1 :: runesGo n (l.drop (decodeL l).2)
def runes (l : List UInt8) : List Nat := runesGo l.length l

theorem drop_lt (l : List UInt8) (hne : l ≠ []) : (l.drop (decodeL l).2).length < l.length := by
  have := decodeL_width l
  have h2 : 0 < l.length := List.length_pos_iff.2 hne
  rw [List.length_drop]; omega

theorem runesGo_fuel : ∀ (n m : Nat) (l : List UInt8), l.length ≤ n → l.length ≤ m → runesGo n l = runesGo m l
  | 0, 0, _, _, _ => rfl
  | 0, m + 1, l, h, _ => by
    have : l = [] := List.eq_nil_of_length_eq_zero (by omega)
    simp [runesGo, this]
  | n + 1, 0, l, _, h => by
    have : l = [] := List.eq_nil_of_length_eq_zero (by omega)
    simp [runesGo, this]
  | n + 1, m + 1, l, h1, h2 => by
    unfold runesGo
    by_cases hl : l = []
    · simp [hl]
    · have := drop_lt l hl
      rw [if_neg hl, if_neg hl, runesGo_fuel n m _ (by omega) (by omega)]
theorem runes_nil : runes [] = [] := rfl
theorem runes_step (l : List UInt8) (hne : l ≠ []) : runes l = (decodeL l).1 :: runes (l.drop (decodeL l).2) := by
  have h := drop_lt l hne
  have hp : 0 < l.length := List.length_pos_iff.2 hne
  conv => lhs; unfold runes; rw [show l.length = (l.length - 1) + 1 from by omega]; unfold runesGo; rw [if_neg hne]
  unfold runes
  rw [runesGo_fuel (l.length - 1) (l.drop (decodeL l).2).length _ (by omega) (Nat.le_refl _)]
theorem runes_length_le : ∀ (n : Nat) (l : List UInt8), l.length ≤ n → (runes l).length ≤ l.length
  | 0, l, h => by
    have : l = [] := List.eq_nil_of_length_eq_zero (by omega)
    simp [this, runes_nil]
  | n + 1, l, h => by
    by_cases hl : l = []
    · simp [hl, runes_nil]
    · have h1 := drop_lt l hl
      rw [runes_step l hl, List.length_cons]
      have := runes_length_le n (l.drop (decodeL l).2) (by omega)
      omega
theorem runes_le (l : List UInt8) : (runes l).length ≤ l.length := runes_length_le _ l (Nat.le_refl _)

/-- a good step: the bytes are the encoding -/
def enc (r : Nat) : List UInt8 := encodeRune (r : Int)

theorem valid_cut (l : List UInt8) (hne : l ≠ []) (hv : validD l = true) :
    ¬ ((decodeL l).1 = 65533 ∧ (decodeL l).2 = 1) ∧ validD (l.drop (decodeL l).2) = true := by
  rw [validD_step l hne] at hv
  split at hv
  · cases hv
  · exact ⟨‹_›, hv⟩

theorem flat_of_valid : ∀ (n : Nat) (l : List UInt8), l.length ≤ n → validD l = true → (runes l).flatMap enc = l
  | 0, l, h, _ => by
    have : l = [] := List.eq_nil_of_length_eq_zero (by omega)
    simp [this, runes_nil]
  | n + 1, l, h, hv => by
    by_cases hl : l = []
    · simp [hl, runes_nil]
    · have h1 := drop_lt l hl
      obtain ⟨h2, h3⟩ := valid_cut l hl hv
      rw [runes_step l hl, List.flatMap_cons, flat_of_valid n _ (by omega) h3]
      unfold enc
      rw [encode_decode l hl h2, List.take_append_drop]
theorem flat_runes {l : List UInt8} (hv : validD l = true) : (runes l).flatMap enc = l := flat_of_valid _ l (Nat.le_refl _) hv

/-- encodings are decoded -/
def runeOk (r : Nat) : Prop := r < 55296 ∨ (57344 ≤ r ∧ r ≤ 1114111)

theorem u8N (n : Nat) (h : n < 256) : (n.toUInt8).toNat = n := by
  simp [Nat.toUInt8, Nat.mod_eq_of_lt h]

theorem encZ (r : Nat) (h : runeOk r) : enc r = if r ≤ 127 then [r.toUInt8] else if r ≤ 2047 then [(192 + r / 64).toUInt8, (128 + r % 64).toUInt8]
    else if r ≤ 65535 then [(224 + r / 4096).toUInt8, (128 + r / 64 % 64).toUInt8, (128 + r % 64).toUInt8]
    else [(240 + r / 262144).toUInt8, (128 + r / 4096 % 64).toUInt8, (128 + r / 64 % 64).toUInt8, (128 + r % 64).toUInt8] := by
  unfold enc encodeRune
  unfold runeOk at h
  split
  · rw [encodeRuneZ_one (by omega) (by omega)]; rfl
  · split
    · rw [encodeRuneZ_two (by omega) (by omega)]
      simp only [List.map_cons, List.map_nil]
      rw [show (192 + (r : Int) / 64).toNat = 192 + r / 64 from by omega, show (128 + (r : Int) % 64).toNat = 128 + r % 64 from by omega]
    · split
      · rw [encodeRuneZ_three (by omega)]
        simp only [List.map_cons, List.map_nil]
        rw [show (224 + (r : Int) / 4096).toNat = 224 + r / 4096 from by omega, show (128 + (r : Int) / 64 % 64).toNat = 128 + r / 64 % 64 from by omega, show (128 + (r : Int) % 64).toNat = 128 + r % 64 from by omega]
      · rw [encodeRuneZ_four (by omega) (by omega)]
        simp only [List.map_cons, List.map_nil]
        rw [show (240 + (r : Int) / 262144).toNat = 240 + r / 262144 from by omega, show (128 + (r : Int) / 4096 % 64).toNat = 128 + r / 4096 % 64 from by omega, show (128 + (r : Int) / 64 % 64).toNat = 128 + r / 64 % 64 from by omega, show (128 + (r : Int) % 64).toNat = 128 + r % 64 from by omega]

theorem decode_enc (r : Nat) (h : runeOk r) (t : List UInt8) : decodeL (enc r ++ t) = (r, (enc r).length) := by
  rw [encZ r h, decodeL_N]
  unfold runeOk at h
  split
  · simp only [List.cons_append, List.nil_append, List.length_cons, List.length_nil, List.getD_cons_zero]
    rw [u8N _ (by omega)]
    simp only [decodeN]
    rw [if_pos (by omega)]
  · split
    · simp only [List.cons_append, List.nil_append, List.length_cons, List.length_nil, List.getD_cons_zero, List.getD_cons_succ]
      rw [u8N _ (by omega), u8N _ (by omega)]
      simp only [decodeN]
      rw [if_neg (by omega), if_pos (by omega), if_pos (by omega)]
      apply Prod.ext <;> simp only <;> omega
    · split
      · simp only [List.cons_append, List.nil_append, List.length_cons, List.length_nil, List.getD_cons_zero, List.getD_cons_succ]
        rw [u8N _ (by omega), u8N _ (by omega), u8N _ (by omega)]
        simp only [decodeN]
        rw [if_neg (by omega), if_neg (by omega), if_pos (by omega), if_pos (by omega)]
        apply Prod.ext <;> simp only <;> omega
      · simp only [List.cons_append, List.nil_append, List.length_cons, List.length_nil, List.getD_cons_zero, List.getD_cons_succ]
        rw [u8N _ (by omega), u8N _ (by omega), u8N _ (by omega), u8N _ (by omega)]
        simp only [decodeN]
        rw [if_neg (by omega), if_neg (by omega), if_neg (by omega), if_pos (by omega), if_pos (by omega)]
        apply Prod.ext <;> simp only <;> omega
end Go.Proofs.YtklkodifbdpihaaDoor
