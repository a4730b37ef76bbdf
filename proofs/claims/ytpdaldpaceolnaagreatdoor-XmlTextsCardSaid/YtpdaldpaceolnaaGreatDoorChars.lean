/- Package char and the reference answer what plain predicates say of characters; runes of texts. No condition beyond what the theorems state. -/
import Derived.Test.YtpdaldpaceolnaaGreatDoorProg
import Derived.WalkKit
import Derived.ProofKit
import Derived.Lib.Hide
import Derived.BigQuiet
import Derived.Deep.QuietTactic
import Derived.Deep.Light
import Derived.Lib.MapLaws
import Derived.Lib.ValidLaws
import Derived.Lib.FieldsP
namespace Go.Proofs.YtpdaldpaceolnaaGreatDoor
open Go.RowKit
set_option maxRecDepth 100000
theorem ret_bool {a b : Bool} (h : a = b) : Ending.returned (.bool a) = .returned (.bool b) := by rw [h]
def xmlP (p : Int) : Prop := p = 9 ∨ p = 10 ∨ p = 13 ∨ (32 ≤ p ∧ p ≤ 55295) ∨ (57344 ≤ p ∧ p ≤ 65533) ∨ (65536 ≤ p ∧ p ≤ 1114111)
instance (p : Int) : Decidable (xmlP p) := by unfold xmlP; infer_instance
def xmlB (p : Int) : Bool := decide (xmlP p)
theorem xmlB_iff (p : Int) : xmlB p = true ↔ xmlP p := decide_eq_true_iff
def letterP (p : Int) : Prop := (65 ≤ p ∧ p ≤ 90) ∨ (97 ≤ p ∧ p ≤ 122) ∨ p = 95 ∨ (192 ≤ p ∧ p ≠ 215 ∧ p ≠ 247)
instance (p : Int) : Decidable (letterP p) := by unfold letterP; infer_instance
def letterB (p : Int) : Bool := decide (letterP p)
theorem letterB_iff (p : Int) : letterB p = true ↔ letterP p := decide_eq_true_iff
def followP (p : Int) : Prop := (48 ≤ p ∧ p ≤ 57) ∨ p = 45 ∨ p = 46 ∨ p = 183
instance (p : Int) : Decidable (followP p) := by unfold followP; infer_instance
def followB (p : Int) : Bool := decide (followP p)
theorem followB_iff (p : Int) : followB p = true ↔ followP p := decide_eq_true_iff
def spaceP (p : Int) : Prop := p = 9 ∨ p = 10 ∨ p = 13 ∨ p = 32
instance (p : Int) : Decidable (spaceP p) := by unfold spaceP; infer_instance
def spaceB (p : Int) : Bool := decide (spaceP p)
theorem spaceB_iff (p : Int) : spaceB p = true ↔ spaceP p := decide_eq_true_iff

set_option maxHeartbeats 1000000 in
theorem xml_any (p : Int) (w : World) : Calls Tryz.prog 24 #[.int .i64 p] w fun e w' => e = .returned (.bool (xmlB p)) ∧ w = w' := by
  go_enter Tryz.func24, Tryz.ntmps24
  go_wp2
  all_goals go_ret
  all_goals (go_light; refine ⟨ret_bool ?_, rfl⟩; rw [Bool.eq_iff_iff, xmlB_iff]; simp only [beq_iff_eq, beq_eq_false_iff_ne, ne_eq, Bool.or_eq_true, decide_eq_true_eq, true_iff, Bool.false_eq_true, false_iff] at *; unfold xmlP; omega)
set_option maxHeartbeats 1000000 in
theorem listed_any (p : Int) (w : World) : Calls Tryz.prog 28 #[.int .i64 p] w fun e w' => e = .returned (.bool (xmlB p)) ∧ w = w' := by
  go_enter Tryz.func28, Tryz.ntmps28
  go_wp2
  all_goals go_ret
  all_goals (go_light; refine ⟨ret_bool ?_, rfl⟩; rw [Bool.eq_iff_iff, xmlB_iff]; simp only [beq_iff_eq, Bool.or_eq_true, decide_eq_true_eq, true_iff, Bool.false_eq_true, false_iff] at *; unfold xmlP; omega)
set_option maxHeartbeats 1000000 in
theorem letter_any (p : Int) (w : World) : Calls Tryz.prog 58 #[.int .i32 p] w fun e w' => e = .returned (.bool (letterB p)) ∧ w = w' := by
  go_enter Tryz.func58, Tryz.ntmps58
  go_wp2
  all_goals go_ret
  all_goals (go_light; refine ⟨ret_bool ?_, rfl⟩; rw [Bool.eq_iff_iff, letterB_iff]; simp only [beq_iff_eq, bne_iff_ne, ne_eq, Bool.or_eq_true, Bool.and_eq_true, decide_eq_true_eq, true_iff, Bool.false_eq_true, false_iff] at *; unfold letterP; omega)
set_option maxHeartbeats 1000000 in
theorem follows_any (p : Int) (w : World) : Calls Tryz.prog 59 #[.int .i32 p] w fun e w' => e = .returned (.bool (followB p)) ∧ w = w' := by
  go_enter Tryz.func59, Tryz.ntmps59
  go_wp2
  all_goals go_ret
  all_goals (go_light; refine ⟨ret_bool ?_, rfl⟩; rw [Bool.eq_iff_iff, followB_iff]; simp only [beq_iff_eq, Bool.or_eq_true, decide_eq_true_eq, true_iff] at *; unfold followP; omega)
end Go.Proofs.YtpdaldpaceolnaaGreatDoor
namespace Go.Proofs.YtpdaldpaceolnaaGreatDoor
open Go.Lib

/-! ### runes -/
def runesGo : Nat → List UInt8 → List Nat
  | 0, _ => []
  | n + 1, l => if l = [] then [] else (decodeL l).1 :: runesGo n (l.drop (decodeL l).2)
def runes (l : List UInt8) : List Nat := runesGo l.length l

theorem drop_lt (l : List UInt8) (hne : l ≠ []) : (l.drop (decodeL l).2).length < l.length := by
  have := decodeL_width l
  have h2 : 0 < l.length := List.length_pos_iff.2 hne
  rw [List.length_drop]; omega

theorem runesGo_fuel : ∀ (n m : Nat) (l : List UInt8), l.length ≤ n → l.length ≤ m → runesGo n l = runesGo m l
  | 0, 0, _, _, _ => rfl
  | 0, m + 1, l, h, _ => by
    have : l = [] := List.eq_nil_of_length_eq_zero (by omega)
    simp [runesGo, this]
  | n + 1, 0, l, _, h => by
    have : l = [] := List.eq_nil_of_length_eq_zero (by omega)
    simp [runesGo, this]
  | n + 1, m + 1, l, h1, h2 => by
    unfold runesGo
    by_cases hl : l = []
    · simp [hl]
    · have := drop_lt l hl
      rw [if_neg hl, if_neg hl, runesGo_fuel n m _ (by omega) (by omega)]
theorem runes_nil : runes [] = [] := rfl
theorem runes_step (l : List UInt8) (hne : l ≠ []) : runes l = (decodeL l).1 :: runes (l.drop (decodeL l).2) := by
  have h := drop_lt l hne
  have hp : 0 < l.length := List.length_pos_iff.2 hne
  conv => lhs; unfold runes; rw [show l.length = (l.length - 1) + 1 from by omega]; unfold runesGo; rw [if_neg hne]
  unfold runes
  rw [runesGo_fuel (l.length - 1) (l.drop (decodeL l).2).length _ (by omega) (Nat.le_refl _)]
theorem runes_length_le : ∀ (n : Nat) (l : List UInt8), l.length ≤ n → (runes l).length ≤ l.length
  | 0, l, h => by
    have : l = [] := List.eq_nil_of_length_eq_zero (by omega)
    simp [this, runes_nil]
  | n + 1, l, h => by
    by_cases hl : l = []
    · simp [hl, runes_nil]
    · have h1 := drop_lt l hl
      rw [runes_step l hl, List.length_cons]
      have := runes_length_le n (l.drop (decodeL l).2) (by omega)
      omega
theorem runes_le (l : List UInt8) : (runes l).length ≤ l.length := runes_length_le _ l (Nat.le_refl _)

/-- a good step: the bytes are the encoding -/
def enc (r : Nat) : List UInt8 := encodeRune (r : Int)

theorem valid_cut (l : List UInt8) (hne : l ≠ []) (hv : validD l = true) :
    ¬ ((decodeL l).1 = 65533 ∧ (decodeL l).2 = 1) ∧ validD (l.drop (decodeL l).2) = true := by
  rw [validD_step l hne] at hv
  split at hv
  · cases hv
  · exact ⟨‹_›, hv⟩

theorem flat_of_valid : ∀ (n : Nat) (l : List UInt8), l.length ≤ n → validD l = true → (runes l).flatMap enc = l
  | 0, l, h, _ => by
    have : l = [] := List.eq_nil_of_length_eq_zero (by omega)
    simp [this, runes_nil]
  | n + 1, l, h, hv => by
    by_cases hl : l = []
    · simp [hl, runes_nil]
    · have h1 := drop_lt l hl
      obtain ⟨h2, h3⟩ := valid_cut l hl hv
      rw [runes_step l hl, List.flatMap_cons, flat_of_valid n _ (by omega) h3]
      unfold enc
      rw [encode_decode l hl h2, List.take_append_drop]
theorem flat_runes {l : List UInt8} (hv : validD l = true) : (runes l).flatMap enc = l := flat_of_valid _ l (Nat.le_refl _) hv

/-- encodings are decoded -/
def runeOk (r : Nat) : Prop := r < 55296 ∨ (57344 ≤ r ∧ r ≤ 1114111)

theorem u8N (n : Nat) (h : n < 256) : (n.toUInt8).toNat = n := by
  simp [Nat.toUInt8, Nat.mod_eq_of_lt h]

theorem encZ (r : Nat) (h : runeOk r) : enc r = if r ≤ 127 then [r.toUInt8] else if r ≤ 2047 then [(192 + r / 64).toUInt8, (128 + r % 64).toUInt8]
    else if r ≤ 65535 then [(224 + r / 4096).toUInt8, (128 + r / 64 % 64).toUInt8, (128 + r % 64).toUInt8]
    else [(240 + r / 262144).toUInt8, (128 + r / 4096 % 64).toUInt8, (128 + r / 64 % 64).toUInt8, (128 + r % 64).toUInt8] := by
  unfold enc encodeRune
  unfold runeOk at h
  split
  · rw [encodeRuneZ_one (by omega) (by omega)]; rfl
  · split
    · rw [encodeRuneZ_two (by omega) (by omega)]
      simp only [List.map_cons, List.map_nil]
      rw [show (192 + (r : Int) / 64).toNat = 192 + r / 64 from by omega, show (128 + (r : Int) % 64).toNat = 128 + r % 64 from by omega]
    · split
      · rw [encodeRuneZ_three (by omega)]
        simp only [List.map_cons, List.map_nil]
        rw [show (224 + (r : Int) / 4096).toNat = 224 + r / 4096 from by omega, show (128 + (r : Int) / 64 % 64).toNat = 128 + r / 64 % 64 from by omega, show (128 + (r : Int) % 64).toNat = 128 + r % 64 from by omega]
      · rw [encodeRuneZ_four (by omega) (by omega)]
        simp only [List.map_cons, List.map_nil]
        rw [show (240 + (r : Int) / 262144).toNat = 240 + r / 262144 from by omega, show (128 + (r : Int) / 4096 % 64).toNat = 128 + r / 4096 % 64 from by omega, show (128 + (r : Int) / 64 % 64).toNat = 128 + r / 64 % 64 from by omega, show (128 + (r : Int) % 64).toNat = 128 + r % 64 from by omega]

theorem decode_enc (r : Nat) (h : runeOk r) (t : List UInt8) : decodeL (enc r ++ t) = (r, (enc r).length) := by
  rw [encZ r h, decodeL_N]
  unfold runeOk at h
  split
  · simp only [List.cons_append, List.nil_append, List.length_cons, List.length_nil, List.getD_cons_zero]
    rw [u8N _ (by omega)]
    simp only [decodeN]
    rw [if_pos (by omega)]
  · split
    · simp only [List.cons_append, List.nil_append, List.length_cons, List.length_nil, List.getD_cons_zero, List.getD_cons_succ]
      rw [u8N _ (by omega), u8N _ (by omega)]
      simp only [decodeN]
      rw [if_neg (by omega), if_pos (by omega), if_pos (by omega)]
      apply Prod.ext <;> simp only <;> omega
    · split
      · simp only [List.cons_append, List.nil_append, List.length_cons, List.length_nil, List.getD_cons_zero, List.getD_cons_succ]
        rw [u8N _ (by omega), u8N _ (by omega), u8N _ (by omega)]
        simp only [decodeN]
        rw [if_neg (by omega), if_neg (by omega), if_pos (by omega), if_pos (by omega)]
        apply Prod.ext <;> simp only <;> omega
      · simp only [List.cons_append, List.nil_append, List.length_cons, List.length_nil, List.getD_cons_zero, List.getD_cons_succ]
        rw [u8N _ (by omega), u8N _ (by omega), u8N _ (by omega), u8N _ (by omega)]
        simp only [decodeN]
        rw [if_neg (by omega), if_neg (by omega), if_neg (by omega), if_pos (by omega), if_pos (by omega)]
        apply Prod.ext <;> simp only <;> omega
end Go.Proofs.YtpdaldpaceolnaaGreatDoor
namespace Go.Proofs.YtpdaldpaceolnaaGreatDoor
open Go.Lib
def bN (s : ByteArray) (i : Nat) : Nat := (s.data.toList.getD i 0).toNat
theorem bN_lt (s : ByteArray) (i : Nat) : bN s i < 256 := UInt8.toNat_lt _
theorem bN_get (s : ByteArray) (i : Nat) (h : i < s.size) : (s[i]'h).toNat = bN s i := by
  unfold bN
  have h' : i < s.data.toList.length := by simpa using h
  rw [List.getD_eq_getElem?_getD, List.getElem?_eq_getElem h']
  rfl
abbrev contN (b : Nat) : Prop := 128 ≤ b ∧ b ≤ 191
/-- what next hands back, off the first bytes -/
def nextOf (n b0 b1 b2 b3 : Nat) : Nat × Nat := if (decodeN n b0 b1 b2 b3).1 = 65533 ∧ (decodeN n b0 b1 b2 b3).2 = 1 then (0, 0) else decodeN n b0 b1 b2 b3
def nextS (s : ByteArray) : Nat × Nat := nextOf s.size (bN s 0) (bN s 1) (bN s 2) (bN s 3)
def finN (least p m : Nat) : Nat × Nat := if p < least ∨ (55296 ≤ p ∧ p ≤ 57343) ∨ 1114111 < p then (0, 0) else (p, m)
theorem finN_bad {least p m : Nat} (h : p < least ∨ (55296 ≤ p ∧ p ≤ 57343) ∨ 1114111 < p) : finN least p m = (0, 0) := if_pos h
theorem finN_ok {least p m : Nat} (h : ¬ (p < least ∨ (55296 ≤ p ∧ p ≤ 57343) ∨ 1114111 < p)) : finN least p m = (p, m) := if_neg h

theorem nextOf_asc {n b0 b1 b2 b3 : Nat} (h : b0 < 128) : nextOf n b0 b1 b2 b3 = (b0, 1) := by
  have e : decodeN n b0 b1 b2 b3 = (b0, 1) := by unfold decodeN; rw [if_pos h]
  unfold nextOf
  rw [e, if_neg (by simp only; omega)]
theorem nextOf_of {n b0 b1 b2 b3 : Nat} (e : decodeN n b0 b1 b2 b3 = (65533, 1)) : nextOf n b0 b1 b2 b3 = (0, 0) := by
  unfold nextOf
  rw [e, if_pos ⟨rfl, rfl⟩]
theorem nextOf_lead {n b0 b1 b2 b3 : Nat} (h : (128 ≤ b0 ∧ b0 < 192) ∨ 248 ≤ b0) (h' : b0 < 256) : nextOf n b0 b1 b2 b3 = (0, 0) := by
  apply nextOf_of
  unfold decodeN
  rw [if_neg (by omega), if_neg (by omega), if_neg (by omega), if_neg (by omega)]
theorem nextOf_short {n b0 b1 b2 b3 : Nat} (h : (192 ≤ b0 ∧ b0 < 224 ∧ n < 2) ∨ (224 ≤ b0 ∧ b0 < 240 ∧ n < 3) ∨ (240 ≤ b0 ∧ b0 < 248 ∧ n < 4)) : nextOf n b0 b1 b2 b3 = (0, 0) := by
  apply nextOf_of
  unfold decodeN
  rw [if_neg (by omega), if_neg (by omega), if_neg (by omega), if_neg (by omega)]
theorem nextOf_2 {n b0 b1 b2 b3 : Nat} (h : 192 ≤ b0 ∧ b0 < 224) (hn : 2 ≤ n) (h1 : b1 < 256) :
    nextOf n b0 b1 b2 b3 = if contN b1 then finN 128 (64 * (b0 - 192) + (b1 - 128)) 2 else (0, 0) := by
  have e : decodeN n b0 b1 b2 b3 = if contN b1 then (if 64 * (b0 - 192) + (b1 - 128) < 128 then (65533, 1) else (64 * (b0 - 192) + (b1 - 128), 2)) else (65533, 1) := by
    unfold decodeN
    rw [if_neg (by omega)]
    by_cases c : 128 ≤ b1 ∧ b1 ≤ 191
    · rw [if_pos (by omega), if_pos c]
      by_cases d : 64 * (b0 - 192) + (b1 - 128) < 128
      · rw [if_neg (by omega), if_pos d]
      · rw [if_pos (by omega), if_neg d]
        apply Prod.ext <;> simp only <;> omega
    · rw [if_neg (by omega), if_neg c, if_neg (by omega), if_neg (by omega)]
  unfold nextOf
  rw [e]
  by_cases c : contN b1
  · rw [if_pos c, if_pos c]

    unfold finN
    by_cases d : 64 * (b0 - 192) + (b1 - 128) < 128
    · rw [if_pos d, if_pos ⟨rfl, rfl⟩, if_pos (.inl d)]
    · rw [if_neg d, if_neg (by simp only; omega), if_neg (by omega)]
  · rw [if_neg c, if_neg c, if_pos ⟨rfl, rfl⟩]
theorem nextOf_3 {n b0 b1 b2 b3 : Nat} (h : 224 ≤ b0 ∧ b0 < 240) (hn : 3 ≤ n) (h1 : b1 < 256) (h2 : b2 < 256) :
    nextOf n b0 b1 b2 b3 = if contN b1 ∧ contN b2 then finN 2048 (64 * (64 * (b0 - 224) + (b1 - 128)) + (b2 - 128)) 3 else (0, 0) := by
  obtain ⟨P, hP⟩ : ∃ P, 64 * (64 * (b0 - 224) + (b1 - 128)) + (b2 - 128) = P := ⟨_, rfl⟩
  rw [hP]
  have e : decodeN n b0 b1 b2 b3 = if contN b1 ∧ contN b2 then (if P < 2048 ∨ (55296 ≤ P ∧ P ≤ 57343) then (65533, 1) else (P, 3)) else (65533, 1) := by
    unfold decodeN
    rw [if_neg (by omega), if_neg (by omega)]
    by_cases c : (128 ≤ b1 ∧ b1 ≤ 191) ∧ (128 ≤ b2 ∧ b2 ≤ 191)
    · rw [if_pos (by omega), if_pos c]
      have hp : b0 % 16 * 4096 + b1 % 64 * 64 + b2 % 64 = P := by omega
      rw [hp]
      by_cases d : P < 2048 ∨ (55296 ≤ P ∧ P ≤ 57343)
      · rw [if_neg (by omega), if_pos d]
      · rw [if_pos (by omega), if_neg d]
    · rw [if_neg (by omega), if_neg c, if_neg (by omega)]
  unfold nextOf
  rw [e]
  by_cases c : contN b1 ∧ contN b2
  · rw [if_pos c, if_pos c]

    unfold finN
    by_cases d : P < 2048 ∨ (55296 ≤ P ∧ P ≤ 57343)
    · rw [if_pos d, if_pos ⟨rfl, rfl⟩, if_pos (by omega)]
    · rw [if_neg d, if_neg (by simp only; omega), if_neg (by omega)]
  · rw [if_neg c, if_neg c, if_pos ⟨rfl, rfl⟩]
theorem nextOf_4 {n b0 b1 b2 b3 : Nat} (h : 240 ≤ b0 ∧ b0 < 248) (hn : 4 ≤ n) (h1 : b1 < 256) (h2 : b2 < 256) (h3 : b3 < 256) :
    nextOf n b0 b1 b2 b3 = if contN b1 ∧ contN b2 ∧ contN b3 then finN 65536 (64 * (64 * (64 * (b0 - 240) + (b1 - 128)) + (b2 - 128)) + (b3 - 128)) 4 else (0, 0) := by
  obtain ⟨P, hP⟩ : ∃ P, 64 * (64 * (64 * (b0 - 240) + (b1 - 128)) + (b2 - 128)) + (b3 - 128) = P := ⟨_, rfl⟩
  rw [hP]
  have e : decodeN n b0 b1 b2 b3 = if contN b1 ∧ contN b2 ∧ contN b3 then (if P < 65536 ∨ 1114111 < P then (65533, 1) else (P, 4)) else (65533, 1) := by
    unfold decodeN
    rw [if_neg (by omega), if_neg (by omega), if_neg (by omega)]
    by_cases c : (128 ≤ b1 ∧ b1 ≤ 191) ∧ (128 ≤ b2 ∧ b2 ≤ 191) ∧ (128 ≤ b3 ∧ b3 ≤ 191)
    · rw [if_pos (by omega), if_pos c]
      have hp : b0 % 8 * 262144 + b1 % 64 * 4096 + b2 % 64 * 64 + b3 % 64 = P := by omega
      rw [hp]
      by_cases d : P < 65536 ∨ 1114111 < P
      · rw [if_neg (by omega), if_pos d]
      · rw [if_pos (by omega), if_neg d]
    · rw [if_neg (by omega), if_neg c]
  unfold nextOf
  rw [e]
  by_cases c : contN b1 ∧ contN b2 ∧ contN b3
  · rw [if_pos c, if_pos c]

    unfold finN
    by_cases d : P < 65536 ∨ 1114111 < P
    · rw [if_pos d, if_pos ⟨rfl, rfl⟩, if_pos (by omega)]
    · rw [if_neg d, if_neg (by simp only; omega), if_neg (by omega)]
  · rw [if_neg c, if_neg c, if_pos ⟨rfl, rfl⟩]
end Go.Proofs.YtpdaldpaceolnaaGreatDoor
