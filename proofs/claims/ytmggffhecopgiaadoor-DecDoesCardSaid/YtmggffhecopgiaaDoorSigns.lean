/- Package dec reads signs and digits. No condition beyond what the theorems state. -/
import Derived.Test.YtmggffhecopgiaaDoorRounds
import Derived.Test.YtmggffhecopgiaaDoorNumeral
namespace Go.Proofs
open Go.Shelf Go.RowKit Go.Proofs.Wide

def ba' (l : List UInt8) : ByteArray := ⟨l.toArray⟩
def isD (c : UInt8) : Bool := decide (48 ≤ c.toNat ∧ c.toNat ≤ 57)
theorem digs_contains (c : UInt8) : ([48, 49, 50, 51, 52, 53, 54, 55, 56, 57] : List UInt8).contains c = isD c := by
  have h : ∀ n : Fin 256, ([48, 49, 50, 51, 52, 53, 54, 55, 56, 57] : List UInt8).contains (UInt8.ofNat n.val) = isD (UInt8.ofNat n.val) := by decide +kernel
  have := h ⟨c.toNat, c.toNat_lt⟩
  simpa using this
theorem trimLeft_digits (l : List UInt8) (w : World) : Calls Tryd.prog 38 #[.string (ba' l), .string ⟨#[48, 49, 50, 51, 52, 53, 54, 55, 56, 57]⟩] w fun e w' => e = .returned (.string (ba' (l.dropWhile isD))) ∧ Below w.heap.size w w' := by
  have := Any.strings_TrimLeft_laid Tryd.lays161 (by kernel_rfl) (ba' l) ⟨#[48, 49, 50, 51, 52, 53, 54, 55, 56, 57]⟩ w (by decide) (ascii_of_all (by decide))
  have e : Lib.trimLeftS (ba' l).data.toList ([48, 49, 50, 51, 52, 53, 54, 55, 56, 57] : List UInt8) = l.dropWhile isD := by
    unfold Lib.trimLeftS ba'
    dsimp only
    congr 1
    funext c
    exact digs_contains c
  simp only [] at this
  rw [e] at this
  exact this
theorem trimLeft_noughts (l : List UInt8) (w : World) : Calls Tryd.prog 38 #[.string (ba' l), .string ⟨#[48]⟩] w fun e w' => e = .returned (.string (ba' (l.dropWhile (· == 48)))) ∧ Below w.heap.size w w' := by
  have := Any.strings_TrimLeft_laid Tryd.lays161 (by kernel_rfl) (ba' l) ⟨#[48]⟩ w (by decide) (ascii_of_all (by decide))
  have e : Lib.trimLeftS (ba' l).data.toList ([48] : List UInt8) = l.dropWhile (· == 48) := by
    unfold Lib.trimLeftS ba'
    dsimp only
    congr 1
    funext c
    show (c == 48 || false) = (c == 48)
    exact Bool.or_false _
  simp only [] at this
  rw [e] at this
  exact this
def signL (l : List UInt8) : List UInt8 × Bool := if l.head? = some 45 then (l.tail, true) else if l.head? = some 43 then (l.tail, false) else (l, false)
theorem hasPrefix_one (l : List UInt8) (c : UInt8) (w : World) : Calls Tryd.prog 37 #[.string (ba' l), .string ⟨#[c]⟩] w fun e w' => e = .returned (.bool (decide (l.head? = some c))) ∧ w = w' := by
  refine (Tryd.strings_HasPrefix (ba' l) ⟨#[c]⟩ w).mono fun e w' ⟨a, b⟩ => ⟨?_, b.symm⟩
  rw [a]
  congr 2
  unfold ba' Lib.hasPrefix
  cases l with
  | nil => rfl
  | cons x t =>
    show (c == x && true) = decide (some x = some c)
    rw [Bool.and_true]
    by_cases h : c = x
    · subst h; simp
    · have h' : ¬ x = c := fun e => h e.symm
      simp [h, h']
theorem size_ba (l : List UInt8) : (ba' l).size = l.length := by unfold ba'; exact List.size_toArray
theorem extract_ba (l : List UInt8) (i j : Nat) : (ba' l).extract i j = ba' ((l.take j).drop i) := by
  apply ByteArray.ext
  unfold ba'
  rw [ByteArray.data_extract]
  apply Array.toList_inj.1
  rw [Array.toList_extract]
  show ((l.toArray.toList.drop i).take (j - i)) = _
  rw [List.drop_take]
theorem ret_sb {a b : ByteArray} {c : Bool} (h : a = b) : Ending.returned (.tuple #[.string a, .bool c]) = .returned (.tuple #[.string b, .bool c]) := by rw [h]
theorem sign_any (l : List UInt8) (hl : l.length ≤ 3000) (w : World) : Calls Tryd.prog 35 #[.string (ba' l)] w fun e w' => e = .returned (.tuple #[.string (ba' (signL l).1), .bool (signL l).2]) ∧ w = w' := by
  have hs := size_ba l
  by_cases h : l.head? = some 45
  · have H := fun w => hasPrefix_one l 45 w
    rw [show decide (l.head? = some 45) = true by simpa using h] at H
    have hl1 : 0 < l.length := by cases l; simp at h; simp
    have hs1 : ((ba' l).size : Int) = l.length := by rw [hs]
    have hs2 : (1 : Int) ≤ (l.length : Int) := by omega
    have e : (ba' l).extract 1 l.length = ba' l.tail := by rw [extract_ba, List.take_length, List.drop_one]
    unfold signL
    rw [if_pos h]
    have HE := Lib.hid e
    clear h e
    go_enter Tryd.func35, Tryd.ntmps35
    go_wp2_with (go_at_call 37; refine (H _).mono ?_; rintro e w' ⟨rfl, rfl⟩)
    go_ret2
    exact ⟨ret_sb HE.out, rfl⟩
  · have H := fun w => hasPrefix_one l 45 w
    rw [show decide (l.head? = some 45) = false by simpa using h] at H
    have T : ∀ w, Calls Tryd.prog 57 #[.string (ba' l), .string ⟨#[43]⟩] w fun e w' => e = .returned (.string (ba' (if l.head? = some 43 then l.tail else l))) ∧ w = w' := fun w => by
      refine (Tryd.strings_TrimPrefix (ba' l) ⟨#[43]⟩ w).mono fun e w' ⟨a, b⟩ => ⟨?_, b.symm⟩
      rw [a]
      congr 2
      unfold ba' Lib.trimPrefix Lib.hasPrefix
      cases l with
      | nil => rfl
      | cons x t =>
        show (⟨(if ((43 : UInt8) == x && true) = true then (x :: t).drop 1 else x :: t).toArray⟩ : ByteArray) = _
        rw [Bool.and_true]
        by_cases h : x = 43
        · subst h; simp
        · have h' : ¬ (43 : UInt8) = x := fun e => h e.symm
          simp [h, h']
    have e2 : signL l = (if l.head? = some 43 then l.tail else l, false) := by unfold signL; rw [if_neg h]; split <;> rfl
    rw [e2]
    have HT := Lib.hid T
    clear h e2 T
    generalize (if l.head? = some 43 then l.tail else l) = r at *
    go_enter Tryd.func35, Tryd.ntmps35
    go_wp2_with (first | (go_at_call 37; refine (H _).mono ?_; rintro e w' ⟨rfl, rfl⟩) | (go_at_call 57; refine (HT.out _).mono ?_; rintro e w' ⟨rfl, rfl⟩))
    go_ret2
    exact ⟨rfl, rfl⟩
theorem ret_ss {a b c d : ByteArray} (h : a = b) (h' : c = d) : Ending.returned (.tuple #[.string a, .string c]) = .returned (.tuple #[.string b, .string d]) := by rw [h, h']
theorem digits_any (l : List UInt8) (hl : l.length ≤ 3000) (w : World) : Calls Tryd.prog 36 #[.string (ba' l)] w fun e w' => e = .returned (.tuple #[.string (ba' (l.takeWhile isD)), .string (ba' (l.dropWhile isD))]) ∧ Below w.heap.size w w' := by
  have hs := size_ba l
  have hs' := size_ba (l.dropWhile isD)
  have happ := List.takeWhile_append_dropWhile (p := isD) (l := l)
  have hlen : l.length = (l.takeWhile isD).length + (l.dropWhile isD).length := by have := congrArg List.length happ; rw [List.length_append] at this; exact this.symm
  have T := fun w => trimLeft_digits l w
  have HT := Lib.hid T
  clear T
  generalize ha : l.takeWhile isD = a at *
  generalize hr : l.dropWhile isD = r at *
  have e : (ba' l).extract 0 a.length = ba' a := by
    rw [extract_ba, List.drop_zero, ← happ, List.take_left]
  have HE := Lib.hid e
  clear happ e
  have wl : IntKind.i64.wrap ((l.length : Int) - (r.length : Int)) = (a.length : Int) := by rw [IntKind.wrap_i64]; omega
  have hs1 : ((ba' l).size : Int) = l.length := by rw [hs]
  have hs2 : ((ba' r).size : Int) = r.length := by rw [hs']
  have hal : (a.length : Int) ≤ (l.length : Int) := by omega
  have ha0 : (0 : Int) ≤ (a.length : Int) := by omega
  clear ha hr hlen
  go_enter Tryd.func36, Tryd.ntmps36
  go_wp2_with (go_at_call 38; refine (HT.out _).mono ?_; rintro e w' ⟨rfl, hb⟩)
  go_ret2
  exact ⟨ret_ss HE.out rfl, hb⟩
end Go.Proofs
