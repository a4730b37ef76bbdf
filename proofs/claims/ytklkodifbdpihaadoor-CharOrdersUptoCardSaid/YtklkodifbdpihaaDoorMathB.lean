/- Plain facts on the first bytes of a text: what the reference reads as its first character. No condition beyond what the theorems state. -/
import Derived.Test.YtklkodifbdpihaaDoorMathA
namespace Go.Proofs.YtklkodifbdpihaaDoor
open Go.Lib
def bN (s : ByteArray) (i : Nat) : Nat := (s.data.toList.getD i 0).toNat
theorem bN_lt (s : ByteArray) (i : Nat) : bN s i < 256 := UInt8.toNat_lt _
theorem bN_get (s : ByteArray) (i : Nat) (h : i < s.size) : (s[i]'h).toNat = bN s i := by
  unfold bN
  have h' : i < s.data.toList.length := by simpa using h
  rw [List.getD_eq_getElem?_getD, List.getElem?_eq_getElem h']
  rfl
abbrev contN (b : Nat) : Prop := 128 ≤ b ∧ b ≤ 191
/-- what next hands back, off the first bytes -/
def nextOf (n b0 b1 b2 b3 : Nat) : Nat × Nat := if (decodeN n b0 b1 b2 b3).1 = 65533 ∧ (decodeN n b0 b1 b2 b3).2 = 1 then (0, 0) else decodeN n b0 b1 b2 b3
def nextS (s : ByteArray) : Nat × Nat := nextOf s.size (bN s 0) (bN s 1) (bN s 2) (bN s 3)
def finN (least p m : Nat) : Nat × Nat := if p < least ∨ (55296 ≤ p ∧ p ≤ 57343) ∨ 1114111 < p then (0, 0) else (p, m)
theorem finN_bad {least p m : Nat} (h : p < least ∨ (55296 ≤ p ∧ p ≤ 57343) ∨ 1114111 < p) : finN least p m = (0, 0) := if_pos h
theorem finN_ok {least p m : Nat} (h : ¬ (p < least ∨ (55296 ≤ p ∧ p ≤ 57343) ∨ 1114111 < p)) : finN least p m = (p, m) := if_neg h

theorem nextOf_asc {n b0 b1 b2 b3 : Nat} (h : b0 < 128) : nextOf n b0 b1 b2 b3 = (b0, 1) := by
  have e : decodeN n b0 b1 b2 b3 = (b0, 1) := by unfold decodeN; rw [if_pos h]
  unfold nextOf
  rw [e, if_neg (by simp only; omega)]
theorem nextOf_of {n b0 b1 b2 b3 : Nat} (e : decodeN n b0 b1 b2 b3 = (65533, 1)) : nextOf n b0 b1 b2 b3 = (0, 0) := by
  unfold nextOf
  rw [e, if_pos ⟨rfl, rfl⟩]
theorem nextOf_lead {n b0 b1 b2 b3 : Nat} (h : (128 ≤ b0 ∧ b0 < 192) ∨ 248 ≤ b0) (h' : b0 < 256) : nextOf n b0 b1 b2 b3 = (0, 0) := by
  apply nextOf_of
  unfold decodeN
  rw [if_neg (by omega), if_neg (by omega), if_neg (by omega), if_neg (by omega)]
theorem nextOf_short {n b0 b1 b2 b3 : Nat} (h : (192 ≤ b0 ∧ b0 < 224 ∧ n < 2) ∨ (224 ≤ b0 ∧ b0 < 240 ∧ n < 3) ∨ (240 ≤ b0 ∧ b0 < 248 ∧ n < 4)) : nextOf n b0 b1 b2 b3 = (0, 0) := by
  apply nextOf_of
  unfold decodeN
  rw [if_neg (by omega), if_neg (by omega), if_neg (by omega), if_neg (by omega)]
theorem nextOf_2 {n b0 b1 b2 b3 : Nat} (h : 192 ≤ b0 ∧ b0 < 224) (hn : 2 ≤ n) (h1 : b1 < 256) :
    nextOf n b0 b1 b2 b3 = if contN b1 then finN 128 (64 * (b0 - 192) + (b1 - 128)) 2 else (0, 0) := by
  have e : decodeN n b0 b1 b2 b3 = if contN b1 then (if 64 * (b0 - 192) + (b1 - 128) < 128 then (65533, 1) else (64 * (b0 - 192) + (b1 - 128), 2)) else (65533, 1) := by
    unfold decodeN
    rw [if_neg (by omega)]
    by_cases c : 128 ≤ b1 ∧ b1 ≤ 191
    · rw [if_pos (by omega), if_pos c]
      by_cases d : 64 * (b0 - 192) + (b1 - 128) < 128
      · rw [if_neg (by omega), if_pos d]
      · rw [if_pos (by omega), if_neg d]
        apply Prod.ext <;> simp only <;> omega
    · rw [if_neg (by omega), if_neg c, if_neg (by omega), if_neg (by omega)]
  unfold nextOf
  rw [e]
  by_cases c : contN b1
  · rw [if_pos c, if_pos c]

    unfold finN
    by_cases d : 64 * (b0 - 192) + (b1 - 128) < 128
    · rw [if_pos d, if_pos ⟨rfl, rfl⟩, if_pos (.inl d)]
    · rw [if_neg d, if_neg (by simp only; omega), if_neg (by omega)]
  · rw [if_neg c, if_neg c, if_pos ⟨rfl, rfl⟩]
theorem nextOf_3 {n b0 b1 b2 b3 : Nat} (h : 224 ≤ b0 ∧ b0 < 240) (hn : 3 ≤ n) (h1 : b1 < 256) (h2 : b2 < 256) :
    nextOf n b0 b1 b2 b3 = if contN b1 ∧ contN b2 then finN 2048 (64 * (64 * (b0 - 224) + (b1 - 128)) + (b2 - 128)) 3 else (0, 0) := by
  obtain ⟨P, hP⟩ : ∃ P, 64 * (64 * (b0 - 224) + (b1 - 128)) + (b2 - 128) = P := ⟨_, rfl⟩
  rw [hP]
  have e : decodeN n b0 b1 b2 b3 = if contN b1 ∧ contN b2 then (if P < 2048 ∨ (55296 ≤ P ∧ P ≤ 57343) then (65533, 1) else (P, 3)) else (65533, 1) := by
    unfold decodeN
    rw [if_neg (by omega), if_neg (by omega)]
    by_cases c : (128 ≤ b1 ∧ b1 ≤ 191) ∧ (128 ≤ b2 ∧ b2 ≤ 191)
    · rw [if_pos (by omega), if_pos c]
      have hp : b0 % 16 * 4096 + b1 % 64 * 64 + b2 % 64 = P := by omega
      rw [hp]
      by_cases d : P < 2048 ∨ (55296 ≤ P ∧ P ≤ 57343)
      · rw [if_neg (by omega), if_pos d]
      · rw [if_pos (by omega), if_neg d]
    · rw [if_neg (by omega), if_neg c, if_neg (by omega)]
  unfold nextOf
  rw [e]
  by_cases c : contN b1 ∧ contN b2
  · rw [if_pos c, if_pos c]

    unfold finN
    by_cases d : P < 2048 ∨ (55296 ≤ P ∧ P ≤ 57343)
    · rw [if_pos d, if_pos ⟨rfl, rfl⟩, if_pos (by omega)]
    · rw [if_neg d, if_neg (by simp only; omega), if_neg (by omega)]
  · rw [if_neg c, if_neg c, if_pos ⟨rfl, rfl⟩]
theorem nextOf_4 {n b0 b1 b2 b3 : Nat} (h : 240 ≤ b0 ∧ b0 < 248) (hn : 4 ≤ n) (h1 : b1 < 256) (h2 : b2 < 256) (h3 : b3 < 256) :
    nextOf n b0 b1 b2 b3 = if contN b1 ∧ contN b2 ∧ contN b3 then finN 65536 (64 * (64 * (64 * (b0 - 240) + (b1 - 128)) + (b2 - 128)) + (b3 - 128)) 4 else (0, 0) := by
  obtain ⟨P, hP⟩ : ∃ P, 64 * (64 * (64 * (b0 - 240) + (b1 - 128)) + (b2 - 128)) + (b3 - 128) = P := ⟨_, rfl⟩
  rw [hP]
  have e : decodeN n b0 b1 b2 b3 = if contN b1 ∧ contN b2 ∧ contN b3 then (if P < 65536 ∨ 1114111 < P then (65533, 1) else (P, 4)) else (65533, 1) := by
    unfold decodeN
    rw [if_neg (by omega), if_neg (by omega), if_neg (by omega)]
    by_cases c : (128 ≤ b1 ∧ b1 ≤ 191) ∧ (128 ≤ b2 ∧ b2 ≤ 191) ∧ (128 ≤ b3 ∧ b3 ≤ 191)
    · rw [if_pos (by omega), if_pos c]
      have hp : b0 % 8 * 262144 + b1 % 64 * 4096 + b2 % 64 * 64 + b3 % 64 = P := by omega
      rw [hp]
      by_cases d : P < 65536 ∨ 1114111 < P
      · rw [if_neg (by omega), if_pos d]
      · rw [if_pos (by omega), if_neg d]
    · rw [if_neg (by omega), if_neg c]
  unfold nextOf
  rw [e]
  by_cases c : contN b1 ∧ contN b2 ∧ contN b3
  · rw [if_pos c, if_pos c]

    unfold finN
    by_cases d : P < 65536 ∨ 1114111 < P
    · rw [if_pos d, if_pos ⟨rfl, rfl⟩, if_pos (by omega)]
    · rw [if_neg d, if_neg (by simp only; omega), if_neg (by omega)]
  · rw [if_neg c, if_neg c, if_pos ⟨rfl, rfl⟩]
end Go.Proofs.YtklkodifbdpihaaDoor
