/- What stands in bytes: characters read one by one, by the program and by the reference. No condition beyond what the theorems state. -/
import Derived.Lib.MapLaws
import Derived.Lib.ValidLaws
import Derived.Lib.FieldsP
import Derived.Test.YtcmlfkoeajpliaaDoorProg
import Derived.WalkKit
import Derived.ProofKit
import Derived.Lib.Hide
import Derived.BigQuiet
import Derived.Deep.QuietTactic
import Derived.Deep.Light
import Derived.Laws.AppendOwn
import Derived.OwnWalk
import Derived.Below
import Derived.Laws.OwnMore
import Derived.Deep.LoopGhost
import Derived.WalkSpells
namespace Go.Proofs.YtcmlfkoeajpliaaDoor
open Go.Lib

/-! ### runes -/
def runesGo : Nat → List UInt8 → List Nat
  | 0, _ => []
  | n + 1, l => if l = [] then [] else (decodeL l).1 :: runesGo n (l.drop (decodeL l).2)
def runes (l : List UInt8) : List Nat := runesGo l.length l

theorem drop_lt (l : List UInt8) (hne : l ≠ []) : (l.drop (decodeL l).2).length < l.length := by
  have := decodeL_width l
  have h2 : 0 < l.length := List.length_pos_iff.2 hne
  rw [List.length_drop]; omega

theorem runesGo_fuel : ∀ (n m : Nat) (l : List UInt8), l.length ≤ n → l.length ≤ m → runesGo n l = runesGo m l
  | 0, 0, _, _, _ => rfl
  | 0, m + 1, l, h, _ => by
    have : l = [] := List.eq_nil_of_length_eq_zero (by omega)
    simp [runesGo, this]
  | n + 1, 0, l, _, h => by
    have : l = [] := List.eq_nil_of_length_eq_zero (by omega)
    simp [runesGo, this]
  | n + 1, m + 1, l, h1, h2 => by
    unfold runesGo
    by_cases hl : l = []
    · simp [hl]
    · have := drop_lt l hl
      rw [if_neg hl, if_neg hl, runesGo_fuel n m _ (by omega) (by omega)]
theorem runes_nil : runes [] = [] := rfl
theorem runes_step (l : List UInt8) (hne : l ≠ []) : runes l = (decodeL l).1 :: runes (l.drop (decodeL l).2) := by
  have h := drop_lt l hne
  have hp : 0 < l.length := List.length_pos_iff.2 hne
  conv => lhs; unfold runes; rw [show l.length = (l.length - 1) + 1 from by omega]; unfold runesGo; rw [if_neg hne]
  unfold runes
  rw [runesGo_fuel (l.length - 1) (l.drop (decodeL l).2).length _ (by omega) (Nat.le_refl _)]
theorem runes_length_le : ∀ (n : Nat) (l : List UInt8), l.length ≤ n → (runes l).length ≤ l.length
  | 0, l, h => by
    have : l = [] := List.eq_nil_of_length_eq_zero (by omega)
    simp [this, runes_nil]
  | n + 1, l, h => by
    by_cases hl : l = []
    · simp [hl, runes_nil]
    · have h1 := drop_lt l hl
      rw [runes_step l hl, List.length_cons]
      have := runes_length_le n (l.drop (decodeL l).2) (by omega)
      omega
theorem runes_le (l : List UInt8) : (runes l).length ≤ l.length := runes_length_le _ l (Nat.le_refl _)

/-- a good step: the bytes are the encoding -/
def enc (r : Nat) : List UInt8 := encodeRune (r : Int)

theorem valid_cut (l : List UInt8) (hne : l ≠ []) (hv : validD l = true) :
    ¬ ((decodeL l).1 = 65533 ∧ (decodeL l).2 = 1) ∧ validD (l.drop (decodeL l).2) = true := by
  rw [validD_step l hne] at hv
  split at hv
  · cases hv
  · exact ⟨‹_›, hv⟩

theorem flat_of_valid : ∀ (n : Nat) (l : List UInt8), l.length ≤ n → validD l = true → (runes l).flatMap enc = l
  | 0, l, h, _ => by
    have : l = [] := List.eq_nil_of_length_eq_zero (by omega)
    simp [this, runes_nil]
  | n + 1, l, h, hv => by
    by_cases hl : l = []
    · simp [hl, runes_nil]
    · have h1 := drop_lt l hl
      obtain ⟨h2, h3⟩ := valid_cut l hl hv
      rw [runes_step l hl, List.flatMap_cons, flat_of_valid n _ (by omega) h3]
      unfold enc
      rw [encode_decode l hl h2, List.take_append_drop]
theorem flat_runes {l : List UInt8} (hv : validD l = true) : (runes l).flatMap enc = l := flat_of_valid _ l (Nat.le_refl _) hv

/-- encodings are decoded -/
def runeOk (r : Nat) : Prop := r < 55296 ∨ (57344 ≤ r ∧ r ≤ 1114111)

theorem u8N (n : Nat) (h : n < 256) : (n.toUInt8).toNat = n := by
  simp [Nat.toUInt8, Nat.mod_eq_of_lt h]

theorem encZ (r : Nat) (h : runeOk r) : enc r = if r ≤ 127 then [r.toUInt8] else if r ≤ 2047 then [(192 + r / 64).toUInt8, (128 + r % 64).toUInt8]
    else if r ≤ 65535 then [(224 + r / 4096).toUInt8, (128 + r / 64 % 64).toUInt8, (128 + r % 64).toUInt8]
    else [(240 + r / 262144).toUInt8, (128 + r / 4096 % 64).toUInt8, (128 + r / 64 % 64).toUInt8, (128 + r % 64).toUInt8] := by
  unfold enc encodeRune
  unfold runeOk at h
  split
  · rw [encodeRuneZ_one (by omega) (by omega)]; rfl
  · split
    · rw [encodeRuneZ_two (by omega) (by omega)]
      simp only [List.map_cons, List.map_nil]
      rw [show (192 + (r : Int) / 64).toNat = 192 + r / 64 from by omega, show (128 + (r : Int) % 64).toNat = 128 + r % 64 from by omega]
    · split
      · rw [encodeRuneZ_three (by omega)]
        simp only [List.map_cons, List.map_nil]
        rw [show (224 + (r : Int) / 4096).toNat = 224 + r / 4096 from by omega, show (128 + (r : Int) / 64 % 64).toNat = 128 + r / 64 % 64 from by omega, show (128 + (r : Int) % 64).toNat = 128 + r % 64 from by omega]
      · rw [encodeRuneZ_four (by omega) (by omega)]
        simp only [List.map_cons, List.map_nil]
        rw [show (240 + (r : Int) / 262144).toNat = 240 + r / 262144 from by omega, show (128 + (r : Int) / 4096 % 64).toNat = 128 + r / 4096 % 64 from by omega, show (128 + (r : Int) / 64 % 64).toNat = 128 + r / 64 % 64 from by omega, show (128 + (r : Int) % 64).toNat = 128 + r % 64 from by omega]

theorem decode_enc (r : Nat) (h : runeOk r) (t : List UInt8) : decodeL (enc r ++ t) = (r, (enc r).length) := by
  rw [encZ r h, decodeL_N]
  unfold runeOk at h
  split
  · simp only [List.cons_append, List.nil_append, List.length_cons, List.length_nil, List.getD_cons_zero]
    rw [u8N _ (by omega)]
    simp only [decodeN]
    rw [if_pos (by omega)]
  · split
    · simp only [List.cons_append, List.nil_append, List.length_cons, List.length_nil, List.getD_cons_zero, List.getD_cons_succ]
      rw [u8N _ (by omega), u8N _ (by omega)]
      simp only [decodeN]
      rw [if_neg (by omega), if_pos (by omega), if_pos (by omega)]
      apply Prod.ext <;> simp only <;> omega
    · split
      · simp only [List.cons_append, List.nil_append, List.length_cons, List.length_nil, List.getD_cons_zero, List.getD_cons_succ]
        rw [u8N _ (by omega), u8N _ (by omega), u8N _ (by omega)]
        simp only [decodeN]
        rw [if_neg (by omega), if_neg (by omega), if_pos (by omega), if_pos (by omega)]
        apply Prod.ext <;> simp only <;> omega
      · simp only [List.cons_append, List.nil_append, List.length_cons, List.length_nil, List.getD_cons_zero, List.getD_cons_succ]
        rw [u8N _ (by omega), u8N _ (by omega), u8N _ (by omega), u8N _ (by omega)]
        simp only [decodeN]
        rw [if_neg (by omega), if_neg (by omega), if_neg (by omega), if_pos (by omega), if_pos (by omega)]
        apply Prod.ext <;> simp only <;> omega
end Go.Proofs.YtcmlfkoeajpliaaDoor
namespace Go.Proofs.YtcmlfkoeajpliaaDoor
open Go.Lib
def bN (s : ByteArray) (i : Nat) : Nat := (s.data.toList.getD i 0).toNat
theorem bN_lt (s : ByteArray) (i : Nat) : bN s i < 256 := UInt8.toNat_lt _
theorem bN_get (s : ByteArray) (i : Nat) (h : i < s.size) : (s[i]'h).toNat = bN s i := by
  unfold bN
  have h' : i < s.data.toList.length := by simpa using h
  rw [List.getD_eq_getElem?_getD, List.getElem?_eq_getElem h']
  rfl
abbrev contN (b : Nat) : Prop := 128 ≤ b ∧ b ≤ 191
/-- what next hands back, off the first bytes -/
def nextOf (n b0 b1 b2 b3 : Nat) : Nat × Nat := if (decodeN n b0 b1 b2 b3).1 = 65533 ∧ (decodeN n b0 b1 b2 b3).2 = 1 then (0, 0) else decodeN n b0 b1 b2 b3
def nextS (s : ByteArray) : Nat × Nat := nextOf s.size (bN s 0) (bN s 1) (bN s 2) (bN s 3)
def finN (least p m : Nat) : Nat × Nat := if p < least ∨ (55296 ≤ p ∧ p ≤ 57343) ∨ 1114111 < p then (0, 0) else (p, m)
theorem finN_bad {least p m : Nat} (h : p < least ∨ (55296 ≤ p ∧ p ≤ 57343) ∨ 1114111 < p) : finN least p m = (0, 0) := if_pos h
theorem finN_ok {least p m : Nat} (h : ¬ (p < least ∨ (55296 ≤ p ∧ p ≤ 57343) ∨ 1114111 < p)) : finN least p m = (p, m) := if_neg h

theorem nextOf_asc {n b0 b1 b2 b3 : Nat} (h : b0 < 128) : nextOf n b0 b1 b2 b3 = (b0, 1) := by
  have e : decodeN n b0 b1 b2 b3 = (b0, 1) := by unfold decodeN; rw [if_pos h]
  unfold nextOf
  rw [e, if_neg (by simp only; omega)]
theorem nextOf_of {n b0 b1 b2 b3 : Nat} (e : decodeN n b0 b1 b2 b3 = (65533, 1)) : nextOf n b0 b1 b2 b3 = (0, 0) := by
  unfold nextOf
  rw [e, if_pos ⟨rfl, rfl⟩]
theorem nextOf_lead {n b0 b1 b2 b3 : Nat} (h : (128 ≤ b0 ∧ b0 < 192) ∨ 248 ≤ b0) (h' : b0 < 256) : nextOf n b0 b1 b2 b3 = (0, 0) := by
  apply nextOf_of
  unfold decodeN
  rw [if_neg (by omega), if_neg (by omega), if_neg (by omega), if_neg (by omega)]
theorem nextOf_short {n b0 b1 b2 b3 : Nat} (h : (192 ≤ b0 ∧ b0 < 224 ∧ n < 2) ∨ (224 ≤ b0 ∧ b0 < 240 ∧ n < 3) ∨ (240 ≤ b0 ∧ b0 < 248 ∧ n < 4)) : nextOf n b0 b1 b2 b3 = (0, 0) := by
  apply nextOf_of
  unfold decodeN
  rw [if_neg (by omega), if_neg (by omega), if_neg (by omega), if_neg (by omega)]
theorem nextOf_2 {n b0 b1 b2 b3 : Nat} (h : 192 ≤ b0 ∧ b0 < 224) (hn : 2 ≤ n) (h1 : b1 < 256) :
    nextOf n b0 b1 b2 b3 = if contN b1 then finN 128 (64 * (b0 - 192) + (b1 - 128)) 2 else (0, 0) := by
  have e : decodeN n b0 b1 b2 b3 = if contN b1 then (if 64 * (b0 - 192) + (b1 - 128) < 128 then (65533, 1) else (64 * (b0 - 192) + (b1 - 128), 2)) else (65533, 1) := by
    unfold decodeN
    rw [if_neg (by omega)]
    by_cases c : 128 ≤ b1 ∧ b1 ≤ 191
    · rw [if_pos (by omega), if_pos c]
      by_cases d : 64 * (b0 - 192) + (b1 - 128) < 128
      · rw [if_neg (by omega), if_pos d]
      · rw [if_pos (by omega), if_neg d]
        apply Prod.ext <;> simp only <;> omega
    · rw [if_neg (by omega), if_neg c, if_neg (by omega), if_neg (by omega)]
  unfold nextOf
  rw [e]
  by_cases c : contN b1
  · rw [if_pos c, if_pos c]

    unfold finN
    by_cases d : 64 * (b0 - 192) + (b1 - 128) < 128
    · rw [if_pos d, if_pos ⟨rfl, rfl⟩, if_pos (.inl d)]
    · rw [if_neg d, if_neg (by simp only; omega), if_neg (by omega)]
  · rw [if_neg c, if_neg c, if_pos ⟨rfl, rfl⟩]
theorem nextOf_3 {n b0 b1 b2 b3 : Nat} (h : 224 ≤ b0 ∧ b0 < 240) (hn : 3 ≤ n) (h1 : b1 < 256) (h2 : b2 < 256) :
    nextOf n b0 b1 b2 b3 = if contN b1 ∧ contN b2 then finN 2048 (64 * (64 * (b0 - 224) + (b1 - 128)) + (b2 - 128)) 3 else (0, 0) := by
  obtain ⟨P, hP⟩ : ∃ P, 64 * (64 * (b0 - 224) + (b1 - 128)) + (b2 - 128) = P := ⟨_, rfl⟩
  rw [hP]
  have e : decodeN n b0 b1 b2 b3 = if contN b1 ∧ contN b2 then (if P < 2048 ∨ (55296 ≤ P ∧ P ≤ 57343) then (65533, 1) else (P, 3)) else (65533, 1) := by
    unfold decodeN
    rw [if_neg (by omega), if_neg (by omega)]
    by_cases c : (128 ≤ b1 ∧ b1 ≤ 191) ∧ (128 ≤ b2 ∧ b2 ≤ 191)
    · rw [if_pos (by omega), if_pos c]
      have hp : b0 % 16 * 4096 + b1 % 64 * 64 + b2 % 64 = P := by omega
      rw [hp]
      by_cases d : P < 2048 ∨ (55296 ≤ P ∧ P ≤ 57343)
      · rw [if_neg (by omega), if_pos d]
      · rw [if_pos (by omega), if_neg d]
    · rw [if_neg (by omega), if_neg c, if_neg (by omega)]
  unfold nextOf
  rw [e]
  by_cases c : contN b1 ∧ contN b2
  · rw [if_pos c, if_pos c]

    unfold finN
    by_cases d : P < 2048 ∨ (55296 ≤ P ∧ P ≤ 57343)
    · rw [if_pos d, if_pos ⟨rfl, rfl⟩, if_pos (by omega)]
    · rw [if_neg d, if_neg (by simp only; omega), if_neg (by omega)]
  · rw [if_neg c, if_neg c, if_pos ⟨rfl, rfl⟩]
theorem nextOf_4 {n b0 b1 b2 b3 : Nat} (h : 240 ≤ b0 ∧ b0 < 248) (hn : 4 ≤ n) (h1 : b1 < 256) (h2 : b2 < 256) (h3 : b3 < 256) :
    nextOf n b0 b1 b2 b3 = if contN b1 ∧ contN b2 ∧ contN b3 then finN 65536 (64 * (64 * (64 * (b0 - 240) + (b1 - 128)) + (b2 - 128)) + (b3 - 128)) 4 else (0, 0) := by
  obtain ⟨P, hP⟩ : ∃ P, 64 * (64 * (64 * (b0 - 240) + (b1 - 128)) + (b2 - 128)) + (b3 - 128) = P := ⟨_, rfl⟩
  rw [hP]
  have e : decodeN n b0 b1 b2 b3 = if contN b1 ∧ contN b2 ∧ contN b3 then (if P < 65536 ∨ 1114111 < P then (65533, 1) else (P, 4)) else (65533, 1) := by
    unfold decodeN
    rw [if_neg (by omega), if_neg (by omega), if_neg (by omega)]
    by_cases c : (128 ≤ b1 ∧ b1 ≤ 191) ∧ (128 ≤ b2 ∧ b2 ≤ 191) ∧ (128 ≤ b3 ∧ b3 ≤ 191)
    · rw [if_pos (by omega), if_pos c]
      have hp : b0 % 8 * 262144 + b1 % 64 * 4096 + b2 % 64 * 64 + b3 % 64 = P := by omega
      rw [hp]
      by_cases d : P < 65536 ∨ 1114111 < P
      · rw [if_neg (by omega), if_pos d]
      · rw [if_pos (by omega), if_neg d]
    · rw [if_neg (by omega), if_neg c]
  unfold nextOf
  rw [e]
  by_cases c : contN b1 ∧ contN b2 ∧ contN b3
  · rw [if_pos c, if_pos c]

    unfold finN
    by_cases d : P < 65536 ∨ 1114111 < P
    · rw [if_pos d, if_pos ⟨rfl, rfl⟩, if_pos (by omega)]
    · rw [if_neg d, if_neg (by simp only; omega), if_neg (by omega)]
  · rw [if_neg c, if_neg c, if_pos ⟨rfl, rfl⟩]
end Go.Proofs.YtcmlfkoeajpliaaDoor
namespace Go.Proofs.YtcmlfkoeajpliaaDoor
open Go.RowKit
set_option maxRecDepth 100000
theorem ret_bool {a b : Bool} (h : a = b) : Ending.returned (.bool a) = .returned (.bool b) := by rw [h]
def xmlP (p : Int) : Prop := p = 9 ∨ p = 10 ∨ p = 13 ∨ (32 ≤ p ∧ p ≤ 55295) ∨ (57344 ≤ p ∧ p ≤ 65533) ∨ (65536 ≤ p ∧ p ≤ 1114111)
instance (p : Int) : Decidable (xmlP p) := by unfold xmlP; infer_instance
def xmlB (p : Int) : Bool := decide (xmlP p)
theorem xmlB_iff (p : Int) : xmlB p = true ↔ xmlP p := decide_eq_true_iff
def letterP (p : Int) : Prop := (65 ≤ p ∧ p ≤ 90) ∨ (97 ≤ p ∧ p ≤ 122) ∨ p = 95 ∨ (192 ≤ p ∧ p ≠ 215 ∧ p ≠ 247)
instance (p : Int) : Decidable (letterP p) := by unfold letterP; infer_instance
def letterB (p : Int) : Bool := decide (letterP p)
theorem letterB_iff (p : Int) : letterB p = true ↔ letterP p := decide_eq_true_iff
def followP (p : Int) : Prop := (48 ≤ p ∧ p ≤ 57) ∨ p = 45 ∨ p = 46 ∨ p = 183
instance (p : Int) : Decidable (followP p) := by unfold followP; infer_instance
def followB (p : Int) : Bool := decide (followP p)
theorem followB_iff (p : Int) : followB p = true ↔ followP p := decide_eq_true_iff
def spaceP (p : Int) : Prop := p = 9 ∨ p = 10 ∨ p = 13 ∨ p = 32
instance (p : Int) : Decidable (spaceP p) := by unfold spaceP; infer_instance
def spaceB (p : Int) : Bool := decide (spaceP p)
theorem spaceB_iff (p : Int) : spaceB p = true ↔ spaceP p := decide_eq_true_iff

set_option maxHeartbeats 1000000 in
theorem xml_any (p : Int) (w : World) : Calls Tryd.prog 75 #[.int .i64 p] w fun e w' => e = .returned (.bool (xmlB p)) ∧ w = w' := by
  go_enter Tryd.func75, Tryd.ntmps75
  go_wp2
  all_goals go_ret
  all_goals (go_light; refine ⟨ret_bool ?_, rfl⟩; rw [Bool.eq_iff_iff, xmlB_iff]; simp only [beq_iff_eq, beq_eq_false_iff_ne, ne_eq, Bool.or_eq_true, decide_eq_true_eq, true_iff, Bool.false_eq_true, false_iff] at *; unfold xmlP; omega)
set_option maxHeartbeats 1000000 in
theorem listed_any (p : Int) (w : World) : Calls Tryd.prog 106 #[.int .i64 p] w fun e w' => e = .returned (.bool (xmlB p)) ∧ w = w' := by
  go_enter Tryd.func106, Tryd.ntmps106
  go_wp2
  all_goals go_ret
  all_goals (go_light; refine ⟨ret_bool ?_, rfl⟩; rw [Bool.eq_iff_iff, xmlB_iff]; simp only [beq_iff_eq, Bool.or_eq_true, decide_eq_true_eq, true_iff, Bool.false_eq_true, false_iff] at *; unfold xmlP; omega)
set_option maxHeartbeats 1000000 in
theorem letter_any (p : Int) (w : World) : Calls Tryd.prog 102 #[.int .i32 p] w fun e w' => e = .returned (.bool (letterB p)) ∧ w = w' := by
  go_enter Tryd.func102, Tryd.ntmps102
  go_wp2
  all_goals go_ret
  all_goals (go_light; refine ⟨ret_bool ?_, rfl⟩; rw [Bool.eq_iff_iff, letterB_iff]; simp only [beq_iff_eq, bne_iff_ne, ne_eq, Bool.or_eq_true, Bool.and_eq_true, decide_eq_true_eq, true_iff, Bool.false_eq_true, false_iff] at *; unfold letterP; omega)
set_option maxHeartbeats 1000000 in
theorem follows_any (p : Int) (w : World) : Calls Tryd.prog 103 #[.int .i32 p] w fun e w' => e = .returned (.bool (followB p)) ∧ w = w' := by
  go_enter Tryd.func103, Tryd.ntmps103
  go_wp2
  all_goals go_ret
  all_goals (go_light; refine ⟨ret_bool ?_, rfl⟩; rw [Bool.eq_iff_iff, followB_iff]; simp only [beq_iff_eq, Bool.or_eq_true, decide_eq_true_eq, true_iff] at *; unfold followP; omega)
end Go.Proofs.YtcmlfkoeajpliaaDoor
namespace Go.Proofs.YtcmlfkoeajpliaaDoor
open Go.RowKit Go.Lib
set_option maxRecDepth 100000
theorem ret_pair {a b : Int} {q r : Nat × Nat} (e : q = r) (h1 : a = r.1) (h2 : b = r.2) : Ending.returned (.tuple #[.int .i64 a, .int .i64 b]) = .returned (.tuple #[.int .i64 q.1, .int .i64 q.2]) := by rw [h1, h2, e]


def nextR2 (c0 c1 : Int) (p i : Value) : Prop := (i = .int .i64 1 ∧ p = .int .i64 (c0 - 192)) ∨ (i = .int .i64 2 ∧ 128 ≤ c1 ∧ c1 ≤ 191 ∧ p = .int .i64 (64 * (c0 - 192) + c1 - 128))
def nextR3 (c0 c1 c2 : Int) (p i : Value) : Prop := (i = .int .i64 1 ∧ p = .int .i64 (c0 - 224)) ∨ (i = .int .i64 2 ∧ 128 ≤ c1 ∧ c1 ≤ 191 ∧ p = .int .i64 (64 * (c0 - 224) + c1 - 128)) ∨
  (i = .int .i64 3 ∧ 128 ≤ c1 ∧ c1 ≤ 191 ∧ 128 ≤ c2 ∧ c2 ≤ 191 ∧ p = .int .i64 (64 * (64 * (c0 - 224) + c1 - 128) + c2 - 128))
def nextR4 (c0 c1 c2 c3 : Int) (p i : Value) : Prop := (i = .int .i64 1 ∧ p = .int .i64 (c0 - 240)) ∨ (i = .int .i64 2 ∧ 128 ≤ c1 ∧ c1 ≤ 191 ∧ p = .int .i64 (64 * (c0 - 240) + c1 - 128)) ∨
  (i = .int .i64 3 ∧ 128 ≤ c1 ∧ c1 ≤ 191 ∧ 128 ≤ c2 ∧ c2 ≤ 191 ∧ p = .int .i64 (64 * (64 * (c0 - 240) + c1 - 128) + c2 - 128)) ∨
  (i = .int .i64 4 ∧ 128 ≤ c1 ∧ c1 ≤ 191 ∧ 128 ≤ c2 ∧ c2 ≤ 191 ∧ 128 ≤ c3 ∧ c3 ≤ 191 ∧ p = .int .i64 (64 * (64 * (64 * (c0 - 240) + c1 - 128) + c2 - 128) + c3 - 128))
section
variable (s : ByteArray) (w : World)
def nextPost (s : ByteArray) (w : World) (e : Ending) (w' : World) : Prop := e = .returned (.tuple #[.int .i64 (nextS s).1, .int .i64 (nextS s).2]) ∧ w = w'

set_option maxHeartbeats 1000000 in
theorem next_asc (h0 : 0 < s.size) (hs : s.size ≤ maxLen) (hc1 : (s[0]).toNat < 128) : Calls Tryd.prog 99 #[.string s] w (nextPost s w) := by
  have hs2 := hs; unfold maxLen at hs2
  have E : Hid (nextS s = (s[0].toNat, 1)) := Lib.hid (by unfold nextS; rw [← bN_get s 0 h0]; exact nextOf_asc hc1)
  go_enter Tryd.func99, Tryd.ntmps99
  go_wp2
  go_ret2
  exact ⟨ret_pair E.out rfl rfl, rfl⟩
set_option maxHeartbeats 1000000 in
theorem next_lead (h0 : 0 < s.size) (hs : s.size ≤ maxLen) (hc : (128 ≤ (s[0]).toNat ∧ s[0].toNat < 192) ∨ 248 ≤ s[0].toNat) : Calls Tryd.prog 99 #[.string s] w (nextPost s w) := by
  have hs2 := hs; unfold maxLen at hs2
  have u0 : s[0].toNat < 256 := UInt8.toNat_lt _
  have E : Hid (nextS s = (0, 0)) := Lib.hid (by unfold nextS; rw [← bN_get s 0 h0]; exact nextOf_lead hc u0)
  rcases hc with ⟨hc1, hc2⟩ | hc1
  all_goals
    go_enter Tryd.func99, Tryd.ntmps99
    go_wp2
    go_ret2
    exact ⟨ret_pair E.out rfl rfl, rfl⟩
set_option maxHeartbeats 1000000 in
theorem next_short (h0 : 0 < s.size) (hs : s.size ≤ maxLen) (hc : (192 ≤ s[0].toNat ∧ s[0].toNat < 224 ∧ s.size < 2) ∨ (224 ≤ s[0].toNat ∧ s[0].toNat < 240 ∧ s.size < 3) ∨ (240 ≤ s[0].toNat ∧ s[0].toNat < 248 ∧ s.size < 4)) : Calls Tryd.prog 99 #[.string s] w (nextPost s w) := by
  unfold maxLen at hs
  have u0 : s[0].toNat < 256 := UInt8.toNat_lt _
  have E : Hid (nextS s = (0, 0)) := Lib.hid (by unfold nextS; rw [← bN_get s 0 h0]; exact nextOf_short hc)
  rcases hc with ⟨hc1, hc2, hc3⟩ | ⟨hc1, hc2, hc3⟩ | ⟨hc1, hc2, hc3⟩
  all_goals
    go_enter Tryd.func99, Tryd.ntmps99
    go_wp2
    go_ret2
    exact ⟨ret_pair E.out rfl rfl, rfl⟩
set_option maxHeartbeats 2000000 in
theorem next2 (hn : 2 ≤ s.size) (hs : s.size ≤ maxLen) (hc1 : 192 ≤ (s[0]'(by omega)).toNat) (hc2 : (s[0]'(by omega)).toNat < 224) : Calls Tryd.prog 99 #[.string s] w (nextPost s w) := by
  unfold maxLen at hs
  have h0 : 0 < s.size := by omega
  have h1 : 1 < s.size := by omega
  have u0 : s[0].toNat < 256 := UInt8.toNat_lt _
  have u1 : s[1].toNat < 256 := UInt8.toNat_lt _
  have E : Hid (nextS s = if contN s[1].toNat then finN 128 (64 * (s[0].toNat - 192) + (s[1].toNat - 128)) 2 else (0, 0)) :=
    Lib.hid (by unfold nextS; rw [← bN_get s 0 h0, ← bN_get s 1 h1]; exact nextOf_2 ⟨hc1, hc2⟩ hn u1)
  have a0 : decide ((s[0].toNat : Int) < 128) = false := decide_eq_false (by omega)
  have a224 : decide ((s[0].toNat : Int) < 224) = true := decide_eq_true (by omega)
  have az : decide ((s.size : Int) < 2) = false := decide_eq_false (by omega)
  go_enter Tryd.func99, Tryd.ntmps99
  go_wp2
  go_loop [6, 8] (fun p i => nextR2 (s[0].toNat : Int) (s[1].toNat : Int) p i) (fun _ i => 2 - (intOf i).toNat)
  case atStart => exact Or.inl ⟨rfl, rfl⟩
  case round =>
    unfold nextR2 at hrel
    rcases hrel with ⟨rfl, rfl⟩ | ⟨rfl, d1, e1, rfl⟩
    · by_cases k : contN s[1].toNat
      · obtain ⟨k1, k2⟩ := k
        go_wp2
        go_round
        case rel => unfold nextR2; exact Or.inr ⟨rfl, by omega, by omega, rfl⟩
        case measure => simp [intOf]
      · have K : Hid (¬ (contN s[1].toNat)) := Lib.hid (by intro h; exact k h)
        rcases (by unfold contN at k; omega : s[1].toNat < 128 ∨ 191 < s[1].toNat) with k1 | k1
        all_goals
          clear k
          go_wp2
          go_ret2
          exact ⟨ret_pair (E.out.trans (if_neg K.out)) rfl rfl, rfl⟩
    · have K : Hid (contN s[1].toNat) := Lib.hid (by unfold contN; omega)
      rcases (by omega : (64 * (s[0].toNat - 192) + (s[1].toNat - 128)) < 128 ∨ (55296 ≤ (64 * (s[0].toNat - 192) + (s[1].toNat - 128)) ∧ (64 * (s[0].toNat - 192) + (s[1].toNat - 128)) ≤ 57343) ∨ 1114111 < (64 * (s[0].toNat - 192) + (s[1].toNat - 128)) ∨ (¬ (64 * (s[0].toNat - 192) + (s[1].toNat - 128)) < 128 ∧ (64 * (s[0].toNat - 192) + (s[1].toNat - 128)) < 55296) ∨ (¬ (64 * (s[0].toNat - 192) + (s[1].toNat - 128)) < 128 ∧ 57343 < (64 * (s[0].toNat - 192) + (s[1].toNat - 128)) ∧ (64 * (s[0].toNat - 192) + (s[1].toNat - 128)) ≤ 1114111)) with k | k | k | k | k
      · have F : Hid (nextS s = (0, 0)) := Lib.hid ((E.out.trans (if_pos K.out)).trans (finN_bad (by omega)))
        have k' : (64 * ((s[0].toNat : Int) - 192) + (s[1].toNat : Int) - 128) < 128 := by omega
        clear k
        go_wp2
        all_goals (go_ret2; exact ⟨ret_pair F.out rfl rfl, rfl⟩)
      · have F : Hid (nextS s = (0, 0)) := Lib.hid ((E.out.trans (if_pos K.out)).trans (finN_bad (by omega)))
        have k' : 55296 ≤ (64 * ((s[0].toNat : Int) - 192) + (s[1].toNat : Int) - 128) := by omega
        have k2 : (64 * ((s[0].toNat : Int) - 192) + (s[1].toNat : Int) - 128) ≤ 57343 := by omega
        clear k
        go_wp2
        all_goals (go_ret2; exact ⟨ret_pair F.out rfl rfl, rfl⟩)
      · have F : Hid (nextS s = (0, 0)) := Lib.hid ((E.out.trans (if_pos K.out)).trans (finN_bad (by omega)))
        have k' : 1114111 < (64 * ((s[0].toNat : Int) - 192) + (s[1].toNat : Int) - 128) := by omega
        clear k
        go_wp2
        all_goals (go_ret2; exact ⟨ret_pair F.out rfl rfl, rfl⟩)
      · have F : Hid (nextS s = ((64 * (s[0].toNat - 192) + (s[1].toNat - 128)), 2)) := Lib.hid ((E.out.trans (if_pos K.out)).trans (finN_ok (by omega)))
        have k' : ¬ (64 * ((s[0].toNat : Int) - 192) + (s[1].toNat : Int) - 128) < 128 := by omega
        have k2 : (64 * ((s[0].toNat : Int) - 192) + (s[1].toNat : Int) - 128) < 55296 := by omega
        clear k
        go_wp2
        all_goals (go_ret2; refine ⟨ret_pair F.out ?_ rfl, rfl⟩; go_light; simp only; omega)
      · have F : Hid (nextS s = ((64 * (s[0].toNat - 192) + (s[1].toNat - 128)), 2)) := Lib.hid ((E.out.trans (if_pos K.out)).trans (finN_ok (by omega)))
        have k' : ¬ (64 * ((s[0].toNat : Int) - 192) + (s[1].toNat : Int) - 128) < 128 := by omega
        have k2 : 57343 < (64 * ((s[0].toNat : Int) - 192) + (s[1].toNat : Int) - 128) := by omega
        have k3 : (64 * ((s[0].toNat : Int) - 192) + (s[1].toNat : Int) - 128) ≤ 1114111 := by omega
        clear k
        go_wp2
        all_goals (go_ret2; refine ⟨ret_pair F.out ?_ rfl, rfl⟩; go_light; simp only; omega)

end
end Go.Proofs.YtcmlfkoeajpliaaDoor
namespace Go.Proofs.YtcmlfkoeajpliaaDoor
open Go.RowKit Go.Lib
set_option maxRecDepth 100000
section
variable (s : ByteArray) (w : World)
set_option maxHeartbeats 2000000 in
theorem next3 (hn : 3 ≤ s.size) (hs : s.size ≤ maxLen) (hc1 : 224 ≤ (s[0]'(by omega)).toNat) (hc2 : (s[0]'(by omega)).toNat < 240) : Calls Tryd.prog 99 #[.string s] w (nextPost s w) := by
  unfold maxLen at hs
  have h0 : 0 < s.size := by omega
  have h1 : 1 < s.size := by omega
  have h2 : 2 < s.size := by omega
  have u0 : s[0].toNat < 256 := UInt8.toNat_lt _
  have u1 : s[1].toNat < 256 := UInt8.toNat_lt _
  have u2 : s[2].toNat < 256 := UInt8.toNat_lt _
  have E : Hid (nextS s = if contN s[1].toNat ∧ contN s[2].toNat then finN 2048 (64 * (64 * (s[0].toNat - 224) + (s[1].toNat - 128)) + (s[2].toNat - 128)) 3 else (0, 0)) :=
    Lib.hid (by unfold nextS; rw [← bN_get s 0 h0, ← bN_get s 1 h1, ← bN_get s 2 h2]; exact nextOf_3 ⟨hc1, hc2⟩ hn u1 u2)
  have a0 : decide ((s[0].toNat : Int) < 128) = false := decide_eq_false (by omega)
  have a224 : decide ((s[0].toNat : Int) < 224) = false := decide_eq_false (by omega)
  have a240 : decide ((s[0].toNat : Int) < 240) = true := decide_eq_true (by omega)
  have az : decide ((s.size : Int) < 3) = false := decide_eq_false (by omega)
  go_enter Tryd.func99, Tryd.ntmps99
  go_wp2
  go_loop [6, 8] (fun p i => nextR3 (s[0].toNat : Int) (s[1].toNat : Int) (s[2].toNat : Int) p i) (fun _ i => 3 - (intOf i).toNat)
  case atStart => exact Or.inl ⟨rfl, rfl⟩
  case round =>
    unfold nextR3 at hrel
    rcases hrel with ⟨rfl, rfl⟩ | ⟨rfl, d1, e1, rfl⟩ | ⟨rfl, d1, e1, d2, e2, rfl⟩
    · by_cases k : contN s[1].toNat
      · obtain ⟨k1, k2⟩ := k
        go_wp2
        go_round
        case rel => unfold nextR3; exact Or.inr (Or.inl ⟨rfl, by omega, by omega, rfl⟩)
        case measure => simp [intOf]
      · have K : Hid (¬ (contN s[1].toNat ∧ contN s[2].toNat)) := Lib.hid (by intro h; exact k h.1)
        rcases (by unfold contN at k; omega : s[1].toNat < 128 ∨ 191 < s[1].toNat) with k1 | k1
        all_goals
          clear k
          go_wp2
          go_ret2
          exact ⟨ret_pair (E.out.trans (if_neg K.out)) rfl rfl, rfl⟩
    · by_cases k : contN s[2].toNat
      · obtain ⟨k1, k2⟩ := k
        go_wp2
        go_round
        case rel => unfold nextR3; exact Or.inr (Or.inr ⟨rfl, by omega, by omega, by omega, by omega, rfl⟩)
        case measure => simp [intOf]
      · have K : Hid (¬ (contN s[1].toNat ∧ contN s[2].toNat)) := Lib.hid (by intro h; exact k h.2)
        rcases (by unfold contN at k; omega : s[2].toNat < 128 ∨ 191 < s[2].toNat) with k1 | k1
        all_goals
          clear k
          go_wp2
          go_ret2
          exact ⟨ret_pair (E.out.trans (if_neg K.out)) rfl rfl, rfl⟩
    · have K : Hid (contN s[1].toNat ∧ contN s[2].toNat) := Lib.hid (by unfold contN; omega)
      rcases (by omega : (64 * (64 * (s[0].toNat - 224) + (s[1].toNat - 128)) + (s[2].toNat - 128)) < 2048 ∨ (55296 ≤ (64 * (64 * (s[0].toNat - 224) + (s[1].toNat - 128)) + (s[2].toNat - 128)) ∧ (64 * (64 * (s[0].toNat - 224) + (s[1].toNat - 128)) + (s[2].toNat - 128)) ≤ 57343) ∨ 1114111 < (64 * (64 * (s[0].toNat - 224) + (s[1].toNat - 128)) + (s[2].toNat - 128)) ∨ (¬ (64 * (64 * (s[0].toNat - 224) + (s[1].toNat - 128)) + (s[2].toNat - 128)) < 2048 ∧ (64 * (64 * (s[0].toNat - 224) + (s[1].toNat - 128)) + (s[2].toNat - 128)) < 55296) ∨ (¬ (64 * (64 * (s[0].toNat - 224) + (s[1].toNat - 128)) + (s[2].toNat - 128)) < 2048 ∧ 57343 < (64 * (64 * (s[0].toNat - 224) + (s[1].toNat - 128)) + (s[2].toNat - 128)) ∧ (64 * (64 * (s[0].toNat - 224) + (s[1].toNat - 128)) + (s[2].toNat - 128)) ≤ 1114111)) with k | k | k | k | k
      · have F : Hid (nextS s = (0, 0)) := Lib.hid ((E.out.trans (if_pos K.out)).trans (finN_bad (by omega)))
        have k' : (64 * (64 * ((s[0].toNat : Int) - 224) + (s[1].toNat : Int) - 128) + (s[2].toNat : Int) - 128) < 2048 := by omega
        clear k
        go_wp2
        all_goals (go_ret2; exact ⟨ret_pair F.out rfl rfl, rfl⟩)
      · have F : Hid (nextS s = (0, 0)) := Lib.hid ((E.out.trans (if_pos K.out)).trans (finN_bad (by omega)))
        have k' : 55296 ≤ (64 * (64 * ((s[0].toNat : Int) - 224) + (s[1].toNat : Int) - 128) + (s[2].toNat : Int) - 128) := by omega
        have k2 : (64 * (64 * ((s[0].toNat : Int) - 224) + (s[1].toNat : Int) - 128) + (s[2].toNat : Int) - 128) ≤ 57343 := by omega
        clear k
        go_wp2
        all_goals (go_ret2; exact ⟨ret_pair F.out rfl rfl, rfl⟩)
      · have F : Hid (nextS s = (0, 0)) := Lib.hid ((E.out.trans (if_pos K.out)).trans (finN_bad (by omega)))
        have k' : 1114111 < (64 * (64 * ((s[0].toNat : Int) - 224) + (s[1].toNat : Int) - 128) + (s[2].toNat : Int) - 128) := by omega
        clear k
        go_wp2
        all_goals (go_ret2; exact ⟨ret_pair F.out rfl rfl, rfl⟩)
      · have F : Hid (nextS s = ((64 * (64 * (s[0].toNat - 224) + (s[1].toNat - 128)) + (s[2].toNat - 128)), 3)) := Lib.hid ((E.out.trans (if_pos K.out)).trans (finN_ok (by omega)))
        have k' : ¬ (64 * (64 * ((s[0].toNat : Int) - 224) + (s[1].toNat : Int) - 128) + (s[2].toNat : Int) - 128) < 2048 := by omega
        have k2 : (64 * (64 * ((s[0].toNat : Int) - 224) + (s[1].toNat : Int) - 128) + (s[2].toNat : Int) - 128) < 55296 := by omega
        clear k
        go_wp2
        all_goals (go_ret2; refine ⟨ret_pair F.out ?_ rfl, rfl⟩; go_light; simp only; omega)
      · have F : Hid (nextS s = ((64 * (64 * (s[0].toNat - 224) + (s[1].toNat - 128)) + (s[2].toNat - 128)), 3)) := Lib.hid ((E.out.trans (if_pos K.out)).trans (finN_ok (by omega)))
        have k' : ¬ (64 * (64 * ((s[0].toNat : Int) - 224) + (s[1].toNat : Int) - 128) + (s[2].toNat : Int) - 128) < 2048 := by omega
        have k2 : 57343 < (64 * (64 * ((s[0].toNat : Int) - 224) + (s[1].toNat : Int) - 128) + (s[2].toNat : Int) - 128) := by omega
        have k3 : (64 * (64 * ((s[0].toNat : Int) - 224) + (s[1].toNat : Int) - 128) + (s[2].toNat : Int) - 128) ≤ 1114111 := by omega
        clear k
        go_wp2
        all_goals (go_ret2; refine ⟨ret_pair F.out ?_ rfl, rfl⟩; go_light; simp only; omega)

end
end Go.Proofs.YtcmlfkoeajpliaaDoor
namespace Go.Proofs.YtcmlfkoeajpliaaDoor
open Go.RowKit Go.Lib
set_option maxRecDepth 100000
section
variable (s : ByteArray) (w : World)
set_option maxHeartbeats 2000000 in
theorem next4 (hn : 4 ≤ s.size) (hs : s.size ≤ maxLen) (hc1 : 240 ≤ (s[0]'(by omega)).toNat) (hc2 : (s[0]'(by omega)).toNat < 248) : Calls Tryd.prog 99 #[.string s] w (nextPost s w) := by
  unfold maxLen at hs
  have h0 : 0 < s.size := by omega
  have h1 : 1 < s.size := by omega
  have h2 : 2 < s.size := by omega
  have h3 : 3 < s.size := by omega
  have u0 : s[0].toNat < 256 := UInt8.toNat_lt _
  have u1 : s[1].toNat < 256 := UInt8.toNat_lt _
  have u2 : s[2].toNat < 256 := UInt8.toNat_lt _
  have u3 : s[3].toNat < 256 := UInt8.toNat_lt _
  have E : Hid (nextS s = if contN s[1].toNat ∧ contN s[2].toNat ∧ contN s[3].toNat then finN 65536 (64 * (64 * (64 * (s[0].toNat - 240) + (s[1].toNat - 128)) + (s[2].toNat - 128)) + (s[3].toNat - 128)) 4 else (0, 0)) :=
    Lib.hid (by unfold nextS; rw [← bN_get s 0 h0, ← bN_get s 1 h1, ← bN_get s 2 h2, ← bN_get s 3 h3]; exact nextOf_4 ⟨hc1, hc2⟩ hn u1 u2 u3)
  have a0 : decide ((s[0].toNat : Int) < 128) = false := decide_eq_false (by omega)
  have a224 : decide ((s[0].toNat : Int) < 224) = false := decide_eq_false (by omega)
  have a240 : decide ((s[0].toNat : Int) < 240) = false := decide_eq_false (by omega)
  have a248 : decide ((s[0].toNat : Int) < 248) = true := decide_eq_true (by omega)
  have az : decide ((s.size : Int) < 4) = false := decide_eq_false (by omega)
  go_enter Tryd.func99, Tryd.ntmps99
  go_wp2
  go_loop [6, 8] (fun p i => nextR4 (s[0].toNat : Int) (s[1].toNat : Int) (s[2].toNat : Int) (s[3].toNat : Int) p i) (fun _ i => 4 - (intOf i).toNat)
  case atStart => exact Or.inl ⟨rfl, rfl⟩
  case round =>
    unfold nextR4 at hrel
    rcases hrel with ⟨rfl, rfl⟩ | ⟨rfl, d1, e1, rfl⟩ | ⟨rfl, d1, e1, d2, e2, rfl⟩ | ⟨rfl, d1, e1, d2, e2, d3, e3, rfl⟩
    · by_cases k : contN s[1].toNat
      · obtain ⟨k1, k2⟩ := k
        go_wp2
        go_round
        case rel => unfold nextR4; exact Or.inr (Or.inl ⟨rfl, by omega, by omega, rfl⟩)
        case measure => simp [intOf]
      · have K : Hid (¬ (contN s[1].toNat ∧ contN s[2].toNat ∧ contN s[3].toNat)) := Lib.hid (by intro h; exact k h.1)
        rcases (by unfold contN at k; omega : s[1].toNat < 128 ∨ 191 < s[1].toNat) with k1 | k1
        all_goals
          clear k
          go_wp2
          go_ret2
          exact ⟨ret_pair (E.out.trans (if_neg K.out)) rfl rfl, rfl⟩
    · by_cases k : contN s[2].toNat
      · obtain ⟨k1, k2⟩ := k
        go_wp2
        go_round
        case rel => unfold nextR4; exact Or.inr (Or.inr (Or.inl ⟨rfl, by omega, by omega, by omega, by omega, rfl⟩))
        case measure => simp [intOf]
      · have K : Hid (¬ (contN s[1].toNat ∧ contN s[2].toNat ∧ contN s[3].toNat)) := Lib.hid (by intro h; exact k h.2.1)
        rcases (by unfold contN at k; omega : s[2].toNat < 128 ∨ 191 < s[2].toNat) with k1 | k1
        all_goals
          clear k
          go_wp2
          go_ret2
          exact ⟨ret_pair (E.out.trans (if_neg K.out)) rfl rfl, rfl⟩
    · by_cases k : contN s[3].toNat
      · obtain ⟨k1, k2⟩ := k
        go_wp2
        go_round
        case rel => unfold nextR4; exact Or.inr (Or.inr (Or.inr ⟨rfl, by omega, by omega, by omega, by omega, by omega, by omega, rfl⟩))
        case measure => simp [intOf]
      · have K : Hid (¬ (contN s[1].toNat ∧ contN s[2].toNat ∧ contN s[3].toNat)) := Lib.hid (by intro h; exact k h.2.2)
        rcases (by unfold contN at k; omega : s[3].toNat < 128 ∨ 191 < s[3].toNat) with k1 | k1
        all_goals
          clear k
          go_wp2
          go_ret2
          exact ⟨ret_pair (E.out.trans (if_neg K.out)) rfl rfl, rfl⟩
    · have K : Hid (contN s[1].toNat ∧ contN s[2].toNat ∧ contN s[3].toNat) := Lib.hid (by unfold contN; omega)
      rcases (by omega : (64 * (64 * (64 * (s[0].toNat - 240) + (s[1].toNat - 128)) + (s[2].toNat - 128)) + (s[3].toNat - 128)) < 65536 ∨ (55296 ≤ (64 * (64 * (64 * (s[0].toNat - 240) + (s[1].toNat - 128)) + (s[2].toNat - 128)) + (s[3].toNat - 128)) ∧ (64 * (64 * (64 * (s[0].toNat - 240) + (s[1].toNat - 128)) + (s[2].toNat - 128)) + (s[3].toNat - 128)) ≤ 57343) ∨ 1114111 < (64 * (64 * (64 * (s[0].toNat - 240) + (s[1].toNat - 128)) + (s[2].toNat - 128)) + (s[3].toNat - 128)) ∨ (¬ (64 * (64 * (64 * (s[0].toNat - 240) + (s[1].toNat - 128)) + (s[2].toNat - 128)) + (s[3].toNat - 128)) < 65536 ∧ (64 * (64 * (64 * (s[0].toNat - 240) + (s[1].toNat - 128)) + (s[2].toNat - 128)) + (s[3].toNat - 128)) < 55296) ∨ (¬ (64 * (64 * (64 * (s[0].toNat - 240) + (s[1].toNat - 128)) + (s[2].toNat - 128)) + (s[3].toNat - 128)) < 65536 ∧ 57343 < (64 * (64 * (64 * (s[0].toNat - 240) + (s[1].toNat - 128)) + (s[2].toNat - 128)) + (s[3].toNat - 128)) ∧ (64 * (64 * (64 * (s[0].toNat - 240) + (s[1].toNat - 128)) + (s[2].toNat - 128)) + (s[3].toNat - 128)) ≤ 1114111)) with k | k | k | k | k
      · have F : Hid (nextS s = (0, 0)) := Lib.hid ((E.out.trans (if_pos K.out)).trans (finN_bad (by omega)))
        have k' : (64 * (64 * (64 * ((s[0].toNat : Int) - 240) + (s[1].toNat : Int) - 128) + (s[2].toNat : Int) - 128) + (s[3].toNat : Int) - 128) < 65536 := by omega
        clear k
        go_wp2
        all_goals (go_ret2; exact ⟨ret_pair F.out rfl rfl, rfl⟩)
      · have F : Hid (nextS s = (0, 0)) := Lib.hid ((E.out.trans (if_pos K.out)).trans (finN_bad (by omega)))
        have k' : 55296 ≤ (64 * (64 * (64 * ((s[0].toNat : Int) - 240) + (s[1].toNat : Int) - 128) + (s[2].toNat : Int) - 128) + (s[3].toNat : Int) - 128) := by omega
        have k2 : (64 * (64 * (64 * ((s[0].toNat : Int) - 240) + (s[1].toNat : Int) - 128) + (s[2].toNat : Int) - 128) + (s[3].toNat : Int) - 128) ≤ 57343 := by omega
        clear k
        go_wp2
        all_goals (go_ret2; exact ⟨ret_pair F.out rfl rfl, rfl⟩)
      · have F : Hid (nextS s = (0, 0)) := Lib.hid ((E.out.trans (if_pos K.out)).trans (finN_bad (by omega)))
        have k' : 1114111 < (64 * (64 * (64 * ((s[0].toNat : Int) - 240) + (s[1].toNat : Int) - 128) + (s[2].toNat : Int) - 128) + (s[3].toNat : Int) - 128) := by omega
        clear k
        go_wp2
        all_goals (go_ret2; exact ⟨ret_pair F.out rfl rfl, rfl⟩)
      · have F : Hid (nextS s = ((64 * (64 * (64 * (s[0].toNat - 240) + (s[1].toNat - 128)) + (s[2].toNat - 128)) + (s[3].toNat - 128)), 4)) := Lib.hid ((E.out.trans (if_pos K.out)).trans (finN_ok (by omega)))
        have k' : ¬ (64 * (64 * (64 * ((s[0].toNat : Int) - 240) + (s[1].toNat : Int) - 128) + (s[2].toNat : Int) - 128) + (s[3].toNat : Int) - 128) < 65536 := by omega
        have k2 : (64 * (64 * (64 * ((s[0].toNat : Int) - 240) + (s[1].toNat : Int) - 128) + (s[2].toNat : Int) - 128) + (s[3].toNat : Int) - 128) < 55296 := by omega
        clear k
        go_wp2
        all_goals (go_ret2; refine ⟨ret_pair F.out ?_ rfl, rfl⟩; go_light; simp only; omega)
      · have F : Hid (nextS s = ((64 * (64 * (64 * (s[0].toNat - 240) + (s[1].toNat - 128)) + (s[2].toNat - 128)) + (s[3].toNat - 128)), 4)) := Lib.hid ((E.out.trans (if_pos K.out)).trans (finN_ok (by omega)))
        have k' : ¬ (64 * (64 * (64 * ((s[0].toNat : Int) - 240) + (s[1].toNat : Int) - 128) + (s[2].toNat : Int) - 128) + (s[3].toNat : Int) - 128) < 65536 := by omega
        have k2 : 57343 < (64 * (64 * (64 * ((s[0].toNat : Int) - 240) + (s[1].toNat : Int) - 128) + (s[2].toNat : Int) - 128) + (s[3].toNat : Int) - 128) := by omega
        have k3 : (64 * (64 * (64 * ((s[0].toNat : Int) - 240) + (s[1].toNat : Int) - 128) + (s[2].toNat : Int) - 128) + (s[3].toNat : Int) - 128) ≤ 1114111 := by omega
        clear k
        go_wp2
        all_goals (go_ret2; refine ⟨ret_pair F.out ?_ rfl, rfl⟩; go_light; simp only; omega)

end
end Go.Proofs.YtcmlfkoeajpliaaDoor
namespace Go.Proofs.YtcmlfkoeajpliaaDoor
open Go.RowKit Go.Lib
set_option maxRecDepth 100000
theorem next_any (s : ByteArray) (w : World) (h0 : 0 < s.size) (hs : s.size ≤ maxLen) : Calls Tryd.prog 99 #[.string s] w (nextPost s w) := by
  have u0 : s[0].toNat < 256 := UInt8.toNat_lt _
  by_cases c1 : s[0].toNat < 128
  · exact next_asc s w h0 hs c1
  by_cases c2 : s[0].toNat < 192
  · exact next_lead s w h0 hs (.inl ⟨by omega, c2⟩)
  by_cases c3 : 248 ≤ s[0].toNat
  · exact next_lead s w h0 hs (.inr c3)
  by_cases c4 : s[0].toNat < 224
  · by_cases d : 2 ≤ s.size
    · exact next2 s w d hs (by omega) c4
    · exact next_short s w h0 hs (.inl ⟨by omega, c4, by omega⟩)
  by_cases c5 : s[0].toNat < 240
  · by_cases d : 3 ≤ s.size
    · exact next3 s w d hs (by omega) c5
    · exact next_short s w h0 hs (.inr (.inl ⟨by omega, c5, by omega⟩))
  by_cases d : 4 ≤ s.size
  · exact next4 s w d hs (by omega) (by omega)
  · exact next_short s w h0 hs (.inr (.inr ⟨by omega, by omega, by omega⟩))

def nextL (l : List UInt8) : Nat × Nat := if (decodeL l).1 = 65533 ∧ (decodeL l).2 = 1 then (0, 0) else decodeL l
theorem nextS_eq (s : ByteArray) : nextS s = nextL s.data.toList := by
  unfold nextS nextL nextOf
  rw [decodeL_N]
  unfold bN
  rw [show s.data.toList.length = s.size from by simp]
theorem extract_list (s : ByteArray) (p q : Nat) : (s.extract p q).data.toList = (s.data.toList.take q).drop p := by
  rw [ByteArray.data_extract, Array.toList_extract, List.extract_eq_take_drop, List.drop_take]
theorem extract_drop (s : ByteArray) (p : Nat) : (s.extract p s.size).data.toList = s.data.toList.drop p := by
  rw [extract_list, List.take_of_length_le (by simp)]
theorem next_drop (s : ByteArray) (p : Nat) : nextS (s.extract p s.size) = nextL (s.data.toList.drop p) := by rw [nextS_eq, extract_drop]
end Go.Proofs.YtcmlfkoeajpliaaDoor
namespace Go.Proofs.YtcmlfkoeajpliaaDoor
open Go.RowKit Go.Lib
set_option maxRecDepth 100000
theorem int_info : (Tryd.prog.info? 3).map (fun i => (i.zero, i.size, i.bytes)) = some (some (.int .i64 0), 1, 8) := by kernel_rfl
def cellsI (l : List Nat) : List Value := l.map fun (r : Nat) => Value.int .i64 (r : Int)
theorem cell_one_new (w : World) (x : Value) (t : TypeId) : ∀ j u, [x][j]? = some u → (w.alloc (.cells #[x] t)).cell? ((⟨w.heap.size, 0, none⟩ : Addr).add j) = some u := by
  intro j u hj
  match j, hj with
  | 0, hj => simp at hj; subst hj; simp [Addr.add]
  | (j + 1), hj => simp at hj
theorem cellsI_snoc (l : List Nat) (r : Nat) : cellsI (l ++ [r]) = cellsI l ++ [.int .i64 (r : Int)] := by simp [cellsI]
def ptsOut (B : Nat) (w : World) (l : List UInt8) (e : Ending) (w' : World) : Prop :=
  (validD l = true ∧ ∃ v, e = .returned (.tuple #[v, .bool true]) ∧ w'.ownsRow B 3 1 v (runes l).length (cellsI (runes l)) ∧ Below B w w') ∨
  (validD l = false ∧ e = .returned (.tuple #[.slice none 0 0, .bool false]) ∧ Below B w w')
set_option maxHeartbeats 1000000 in
theorem points_ref (s : ByteArray) (w : World) (hs : s.size ≤ 1099511627776) : Calls Tryd.prog 74 #[.string s] w (ptsOut w.heap.size w s.data.toList) := by
  obtain ⟨i0, hi, hz0, hz1, hz2⟩ := info_parts int_info
  obtain ⟨l, hl⟩ : ∃ l, s.data.toList = l := ⟨_, rfl⟩
  have hsz : s.size = l.length := by rw [← hl]; simp
  rw [hl]
  have HL := Lib.hid hl
  have HZ := Lib.hid hsz
  clear hl hsz
  go_enter Tryd.func74, Tryd.ntmps74
  go_wp2
  go_loopg [4, 5] s.size (fun gf s4 s5 wx => ∃ (pos : Nat) (pre : List Nat), s5 = .int .i64 pos ∧ pos ≤ s.size ∧ s.size ≤ pos + gf ∧ Hid (validD l = validD (l.drop pos)) ∧ Hid (runes l = pre ++ runes (l.drop pos)) ∧ pre.length ≤ pos ∧
      wx.ownsRow w.heap.size 3 1 s4 pre.length (cellsI pre) ∧ Below w.heap.size w wx)
  case atStart => exact ⟨0, [], rfl, by omega, by omega, Lib.hid rfl, Lib.hid rfl, by simp, ⟨rfl, .inl ⟨rfl, rfl⟩⟩, Below.refl _ _⟩
  case round =>
    obtain ⟨pos, pre, rfl, hp, hf, hv, hr, hle, hown, hb⟩ := hrel
    by_cases hlt : pos < s.size
    · have hne : l.drop pos ≠ [] := by
        intro h
        have := congrArg List.length h
        rw [List.length_drop, ← HZ.out] at this
        simp at this
        omega
      have hN : nextS (s.extract pos s.size) = nextL (l.drop pos) := by rw [next_drop, HL.out]
      have cN := next_any (s.extract pos s.size) wr (by simp; omega) (by unfold maxLen; simp; omega)
      unfold nextPost at cN
      rw [hN] at cN
      by_cases hbad : (decodeL (l.drop pos)).1 = 65533 ∧ (decodeL (l.drop pos)).2 = 1
      · have hV : Hid (validD l = false) := Lib.hid (by rw [hv.out, validD_step _ hne, if_pos hbad])
        have e0 : nextL (l.drop pos) = (0, 0) := by unfold nextL; rw [if_pos hbad]
        rw [e0] at cN
        clear hN hbad e0 hne
        have H := Lib.hid cN
        clear cN
        go_wp2_with (go_at_call 99; refine H.out.mono ?_; rintro e w' ⟨rfl, rfl⟩)
        go_ret2
        exact .inr ⟨hV.out, rfl, hb⟩
      · obtain ⟨R, hR⟩ : ∃ R, (decodeL (l.drop pos)).1 = R := ⟨_, rfl⟩
        obtain ⟨K, hK⟩ : ∃ K, (decodeL (l.drop pos)).2 = K := ⟨_, rfl⟩
        have hK1 : 1 ≤ K := by rw [← hK]; exact decodeL_width _
        have hK2 : pos + K ≤ s.size := by
          have := decodeL_le _ hne
          rw [hK, List.length_drop, ← HZ.out] at this
          omega
        have hR1 : R ≤ 1114111 := by rw [← hR]; exact decodeL_rune _
        have hV : Hid (validD l = validD (l.drop (pos + K))) := Lib.hid (by rw [hv.out, validD_step _ hne, if_neg hbad, List.drop_drop, hK])
        have hRR : Hid (runes l = (pre ++ [R]) ++ runes (l.drop (pos + K))) := Lib.hid (by rw [hr.out, runes_step _ hne, List.drop_drop, hK, hR]; simp)
        have e0 : nextL (l.drop pos) = (R, K) := by unfold nextL; rw [if_neg hbad, ← hR, ← hK]
        rw [e0] at cN
        clear hN hbad e0 hne hR hK hv hr
        have H := Lib.hid cN
        clear cN
        have k0 : ((K : Int) == 0) = false := by simp; omega
        obtain ⟨g', rfl⟩ : ∃ g', gk = g' + 1 := ⟨gk - 1, by omega⟩
        go_wp2_with (first
          | (go_at_call 99; refine H.out.mono ?_; rintro e w' ⟨rfl, rfl⟩)
          | (at_builtin; go_must (refine wpList_append_own _ rfl (.tmp 21) (.tmp 23) 55 rfl w.heap.size 3 i0 (.int .i64 0) 1 8 Tryd.underlying55 hi hz0 hz1 hz2 rfl (by decide) _ _ _ rfl (hown.alloc _) ⟨wr.heap.size, 0, none⟩ 1 1 [.int .i64 (R : Int)] rfl rfl (cell_one_new _ _ _) (by intro u hu; simp at hu; subst hu; rfl) (by unfold maxLen; omega) (by omega) (by have := hb.size; simp; omega) ?_; intro v3 w3 hown3 hgrow3 hnil3)))
        go_roundg g'
        case measure => omega
        case rel =>
          refine ⟨pos + K, pre ++ [R], by go_num, hK2, by omega, hV, hRR, by simp; omega, ?_, ?_⟩
          · rw [List.length_append, cellsI_snoc]; exact hown3
          · exact (hb.alloc hb.size _).grown hgrow3 (by have := hb.size; simp; omega) (fun j hj => (hown.lt j hj).1)
    · obtain rfl : pos = s.size := by omega
      have hnil : l.drop s.size = [] := List.drop_eq_nil_of_le (by rw [HZ.out]; omega)
      have hV : Hid (validD l = true) := Lib.hid (by rw [hv.out, hnil]; rfl)
      have hRR : Hid (runes l = pre) := Lib.hid (by rw [hr.out, hnil, runes_nil]; simp)
      clear hnil hv hr
      go_wp2
      go_ret2
      exact .inl ⟨hV.out, _, rfl, by rw [hRR.out]; exact hown, hb⟩
end Go.Proofs.YtcmlfkoeajpliaaDoor
namespace Go.Proofs.YtcmlfkoeajpliaaDoor
open Go.RowKit Go.Lib
set_option maxRecDepth 100000
def xmlN (r : Nat) : Bool := xmlB (r : Int)
def validX (l : List UInt8) : Bool := validD l && (runes l).all xmlN
theorem own_read {w : World} {B n : Nat} {v : Value} {xs : List Nat} (h : w.ownsRow B 3 1 v n (cellsI xs)) :
    ∃ A cap, v = .slice A n cap ∧ xs.length = n ∧ ∀ k, k < n → ∃ g, A = some ⟨g, 0, none⟩ ∧ w.cell? ⟨g, k, none⟩ = some (.int .i64 ((xs.getD k 0 : Nat) : Int)) := by
  have hl : xs.length = n := by have := h.1; simpa [cellsI] using this
  rcases h.2 with ⟨rfl, hn⟩ | ⟨g, cap, cur, rfl, hB, hh, hnc, hcm, hcs, hct⟩
  · subst hn; exact ⟨none, 0, rfl, hl, fun k hk => absurd hk (by omega)⟩
  · refine ⟨some ⟨g, 0, none⟩, cap, rfl, hl, fun k hk => ⟨g, rfl, ?_⟩⟩
    have hc := h.cells (g := g) rfl k (.int .i64 ((xs.getD k 0 : Nat) : Int)) (by
      unfold cellsI
      rw [List.getElem?_map, List.getD_eq_getElem?_getD, List.getElem?_eq_getElem (by omega)]; rfl)
    by_cases k0 : k = 0
    · subst k0; simpa [Addr.add] using hc
    · simpa [Addr.add, k0] using hc
theorem all_take_succ (xs : List Nat) (p : Nat → Bool) (k : Nat) (hk : k < xs.length) : (xs.take (k + 1)).all p = ((xs.take k).all p && p (xs.getD k 0)) := by
  rw [List.take_succ_eq_append_getElem hk, List.all_append, List.getD_eq_getElem?_getD, List.getElem?_eq_getElem hk]
  simp

set_option maxHeartbeats 1000000 in
theorem valid_ref (s : ByteArray) (w : World) (hs : s.size ≤ 1099511627776) : Calls Tryd.prog 50 #[.string s] w fun e w' => e = .returned (.bool (validX s.data.toList)) ∧ Below w.heap.size w w' := by
  have cP := points_ref s w hs
  obtain ⟨l, hl⟩ : ∃ l, s.data.toList = l := ⟨_, rfl⟩
  rw [hl] at cP ⊢
  have hsz : l.length = s.size := by rw [← hl]; simp
  have hrl := runes_le l
  clear hl
  unfold validX
  obtain ⟨xs, hxs⟩ : ∃ xs, runes l = xs := ⟨_, rfl⟩
  unfold ptsOut at cP
  rw [hxs] at cP hrl ⊢
  rw [hsz] at hrl
  clear hxs hsz
  obtain ⟨V, hV⟩ : ∃ V, validD l = V := ⟨_, rfl⟩
  rw [hV] at cP ⊢
  clear hV
  have H := Lib.hid cP
  clear cP
  go_enter Tryd.func50, Tryd.ntmps50
  go_wp2_with fail
  refine H.out.mono ?_
  rintro e w1 (⟨rfl, v, rfl, hown, hb⟩ | ⟨rfl, rfl, hb⟩)
  · obtain ⟨A, cap, rfl, hxl, hrd⟩ := own_read hown
    clear hown H
    have XL := Lib.hid hxl
    have RD := Lib.hid hrd
    clear hrd hxl
    obtain ⟨n, hn⟩ : ∃ n, xs.length = n := ⟨_, rfl⟩
    rw [hn] at RD XL hrl ⊢
    have HN := Lib.hid hn
    clear hn XL
    go_wp2
    go_loop [4, 5] (fun o i => ∃ k : Nat, k ≤ n ∧ i = .int .i64 k ∧ o = .bool ((xs.take k).all xmlN)) (fun _ i => n - (intOf i).toNat)
    case atStart => exact ⟨0, Nat.zero_le _, rfl, by simp⟩
    case round =>
      obtain ⟨k, hk, rfl, rfl⟩ := hrel
      by_cases hlt : k < n
      · obtain ⟨g, rfl, hc⟩ := RD.out k hlt
        have hts := Lib.hid (all_take_succ xs xmlN k (by rw [HN.out]; exact hlt))
        obtain ⟨x, hx⟩ : ∃ x, xs.getD k 0 = x := ⟨_, rfl⟩
        rw [hx] at hc hts
        have cX := xml_any (x : Int) w1
        rw [show xmlB (x : Int) = xmlN x from rfl] at cX
        cases hbv : (xs.take k).all xmlN
        · rw [hbv] at hts
          clear hbv hx cX
          go_wp2
          go_round
          case rel => exact ⟨k + 1, by omega, by go_num, by rw [hts.out]; rfl⟩
          case measure => simp [intOf]; omega
        · rw [hbv] at hts
          clear hbv hx
          have HX := Lib.hid cX
          clear cX
          go_wp2_with (go_at_call 75; refine HX.out.mono ?_; rintro e w' ⟨rfl, rfl⟩)
          go_round
          case rel => exact ⟨k + 1, by omega, by go_num, by rw [hts.out]; rfl⟩
          case measure => simp [intOf]; omega
      · obtain rfl : k = n := by omega
        go_wp2
        go_ret
        exact ⟨by rw [List.take_of_length_le (by rw [HN.out]; omega)]; rfl, hb⟩
  · clear H
    go_wp2
    go_loop [4, 5] (fun o i => i = .int .i64 0 ∧ o = .bool false) (fun _ _ => 0)
    case atStart => exact ⟨rfl, rfl⟩
    case round =>
      obtain ⟨rfl, rfl⟩ := hrel
      go_wp2
      go_ret
      exact ⟨rfl, hb⟩
end Go.Proofs.YtcmlfkoeajpliaaDoor
