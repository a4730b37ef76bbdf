/- Package dec writes numbers. No condition beyond what the theorems state. -/
import Derived.Test.YtmggffhecopgiaaDoorParses
import Derived.BigQuiet
import Derived.Deep.QuietTactic
namespace Go.Proofs
open Go.Shelf Go.RowKit Go.Proofs.Wide

def sgn (n : Int) : List UInt8 := if n < 0 then [45] else []
def padL (n : Int) (k : Nat) : List UInt8 := List.replicate (k + 1 - (Lib.decDigits n.natAbs).length) 48 ++ Lib.decDigits n.natAbs
/-- A number as a text. -/
def formatL (n : Int) (k : Nat) : List UInt8 := if k = 0 then sgn n ++ Lib.decDigits n.natAbs else sgn n ++ (padL n k).take ((padL n k).length - k) ++ [46] ++ (padL n k).drop ((padL n k).length - k)
theorem repeat_noughts (c : Nat) (hc : c ≤ 100) (w : World) : Calls Tryd.prog 42 #[.string ⟨#[48]⟩, .int .i64 c] w fun e w' => e = .returned (.string (ba' (List.replicate c 48))) ∧ Below w.heap.size w w' := by
  have := Tryd.strings_Repeat ⟨#[48]⟩ c w (by omega) (by show 1 * c ≤ _; omega)
  have e : ∀ c, Lib.repeatL ([48] : List UInt8) c = List.replicate c 48 := by
    intro c; induction c with
    | zero => rfl
    | succ c ih => rw [Lib.repeatL, ih]; rfl
  simp only [] at this
  rw [e] at this
  exact this
theorem decDigits_len (u : Nat) (h : u ≤ 999999999999999999) : 1 ≤ (Lib.decDigits u).length ∧ (Lib.decDigits u).length ≤ 20 := by
  rw [Lib.decDigits_length]
  by_cases h0 : u = 0
  · subst h0; rw [show Lib.nDigits 0 = 1 by decide +kernel]; omega
  · have := Lib.numDigits_eq u (by omega) (by omega)
    have h2 := Lib.lt_pow_nDigits u
    refine ⟨?_, by split at this <;> omega⟩
    rcases Nat.eq_zero_or_pos (Lib.nDigits u) with h3 | h3
    · rw [h3] at h2; simp at h2; omega
    · exact h3
set_option maxRecDepth 100000 in
set_option maxHeartbeats 4000000 in
theorem format_core (n : Int) (k : Nat) (h : RightZ n k) (w0 : World)
    (HU : Hid (∀ q, Calls Tryd.prog 41 #[.int .u64 (n.natAbs : Int), .int .i64 10] ((w0.alloc (.cells #[.int .i64 n, .int .i64 k] 23)).drewN q) fun e w' => e = .returned (.string (ba' (Lib.decDigits n.natAbs))) ∧
      Below ((w0.alloc (.cells #[.int .i64 n, .int .i64 k] 23)).drewN q).heap.size ((w0.alloc (.cells #[.int .i64 n, .int .i64 k] 23)).drewN q) w')) :
    Calls Tryd.prog 16 #[nv n k] w0 fun e w' => e = .returned (.string (ba' (formatL n k))) ∧ Below w0.heap.size w0 w' := by
  have hl := decDigits_len n.natAbs (by have := h.1; have := h.2.1; omega)
  have hk9 := h.2.2.1
  have hn1 := h.1
  have hn2 := h.2.1
  by_cases hk : k = 0
  · subst hk
    by_cases hn : n < 0
    · have hF : formatL n 0 = 45 :: Lib.decDigits n.natAbs := by unfold formatL sgn; rw [if_pos rfl, if_pos hn]; rfl
      have hw : IntKind.u64.wrap (-IntKind.u64.wrap n) = (n.natAbs : Int) := by rw [IntKind.wrap_u64, IntKind.wrap_u64]; omega
      rw [hF]
      generalize Lib.decDigits n.natAbs = s at *
      generalize (n.natAbs : Int) = u at *
      have happ : (⟨#[45]⟩ : ByteArray) ++ ba' s = ba' (45 :: s) := app_ba [45] s
      have hsz : ((ba' s).size : Int) = s.length := by rw [size_ba]
      have hs2 : (s.length : Int) ≤ 20 := by omega
      have hs3 : (ba' s).size ≤ 20 := by rw [size_ba]; omega
      unfold nv
      clear h hF hl
      go_enter Tryd.func16, Tryd.ntmps16
      go_wp2
      go_quiet (fail)
      go_wp2_with (go_at_call 41; refine (HU.out _).mono ?_; rintro e w1 ⟨rfl, hb1⟩; obtain ⟨hc1, hf1⟩ := bcell hb1; have z1 : w0.heap.size < w1.heap.size := zz hb1 (by simp))
      go_ret
      exact ⟨rfl, by repeat (first | exact Below.refl _ _ | apply ba | apply bd | apply bdr | (refine bt ?_ (by assumption)))⟩
    · have hF : formatL n 0 = Lib.decDigits n.natAbs := by unfold formatL sgn; rw [if_pos rfl, if_neg hn]; rfl
      have hw : IntKind.u64.wrap n = (n.natAbs : Int) := by rw [IntKind.wrap_u64]; omega
      rw [hF]
      generalize Lib.decDigits n.natAbs = s at *
      generalize (n.natAbs : Int) = u at *
      have happ : (⟨#[]⟩ : ByteArray) ++ ba' s = ba' (s) := app_ba [] s
      have hsz : ((ba' s).size : Int) = s.length := by rw [size_ba]
      have hs2 : (s.length : Int) ≤ 20 := by omega
      have hs3 : (ba' s).size ≤ 20 := by rw [size_ba]; omega
      unfold nv
      clear h hF hl
      go_enter Tryd.func16, Tryd.ntmps16
      go_wp2
      go_quiet (fail)
      go_wp2_with (go_at_call 41; refine (HU.out _).mono ?_; rintro e w1 ⟨rfl, hb1⟩; obtain ⟨hc1, hf1⟩ := bcell hb1; have z1 : w0.heap.size < w1.heap.size := zz hb1 (by simp))
      go_ret
      exact ⟨rfl, by repeat (first | exact Below.refl _ _ | apply ba | apply bd | apply bdr | (refine bt ?_ (by assumption)))⟩
  · by_cases hn : n < 0
    · have hF : formatL n k = [45] ++ (padL n k).take ((padL n k).length - k) ++ [46] ++ (padL n k).drop ((padL n k).length - k) := by unfold formatL sgn; rw [if_neg hk, if_pos hn]
      have hw : IntKind.u64.wrap (-IntKind.u64.wrap n) = (n.natAbs : Int) := by rw [IntKind.wrap_u64, IntKind.wrap_u64]; omega
      have hp : padL n k = List.replicate (k + 1 - (Lib.decDigits n.natAbs).length) 48 ++ Lib.decDigits n.natAbs := rfl
      rw [hF]
      generalize padL n k = p at *
      generalize Lib.decDigits n.natAbs = s at *
      generalize (n.natAbs : Int) = u at *
      obtain ⟨c, hc⟩ : ∃ c : Nat, c = k + 1 - s.length := ⟨_, rfl⟩
      rw [← hc] at hp
      have hplen : p.length = c + s.length := by rw [hp, List.length_append, List.length_replicate]
      obtain ⟨a, ha⟩ : ∃ a : Nat, a = p.length - k := ⟨_, rfl⟩
      rw [← ha]
      have hc9 : c ≤ 100 := by omega
      have w1' : IntKind.i64.wrap ((k : Int) + 1) = (k : Int) + 1 := by rw [IntKind.wrap_i64]; omega
      have w2' : IntKind.i64.wrap ((k : Int) + 1 - (s.length : Int)) = (k : Int) + 1 - (s.length : Int) := by rw [IntKind.wrap_i64]; omega
      have hmx : max 0 ((k : Int) + 1 - (s.length : Int)) = (c : Int) := by omega
      have happ1 : ba' (List.replicate c 48) ++ ba' s = ba' p := by rw [app_ba, ← hp]
      have hap : (a : Int) ≤ (p.length : Int) := by omega
      have wat : IntKind.i64.wrap ((p.length : Int) - (k : Int)) = (a : Int) := by rw [IntKind.wrap_i64]; omega
      have ex1 : (ba' p).extract 0 a = ba' (p.take a) := by rw [extract_ba, List.drop_zero]
      have ex2 : (ba' p).extract a p.length = ba' (p.drop a) := by rw [extract_ba, List.take_length]
      have hszp : ((ba' p).size : Int) = p.length := by rw [size_ba]
      have hsz : ((ba' s).size : Int) = s.length := by rw [size_ba]
      have t1 : (p.take a).length ≤ 40 := by rw [List.length_take]; omega
      have t2 : (p.drop a).length ≤ 40 := by rw [List.length_drop]; omega
      have happ2 : (⟨#[45]⟩ : ByteArray) ++ ba' (p.take a) = ba' ([45] ++ p.take a) := app_ba [45] (p.take a)
      have happ3 : ba' ([45] ++ p.take a) ++ (⟨#[46]⟩ : ByteArray) = ba' ([45] ++ p.take a ++ [46]) := app_ba ([45] ++ p.take a) [46]
      have happ4 : ba' ([45] ++ p.take a ++ [46]) ++ ba' (p.drop a) = ba' ([45] ++ p.take a ++ [46] ++ p.drop a) := app_ba _ _
      have f0 : [45] ++ p.take a = ([45] ++ p.take a : List UInt8) := rfl
      obtain ⟨A, hA⟩ : ∃ A : List UInt8, [45] ++ p.take a = A := ⟨_, rfl⟩
      rw [hA] at happ2 happ3 happ4 ⊢
      have hAl : A.length ≤ 41 := by rw [← hA, List.length_append]; simp only [List.length_cons, List.length_nil]; omega
      obtain ⟨B, hB⟩ : ∃ B : List UInt8, A ++ [46] = B := ⟨_, rfl⟩
      rw [hB] at happ3 happ4 ⊢
      have hBl : B.length ≤ 42 := by rw [← hB, List.length_append]; simp only [List.length_cons, List.length_nil]; omega
      obtain ⟨C, hC⟩ : ∃ C : List UInt8, B ++ p.drop a = C := ⟨_, rfl⟩
      rw [hC] at happ4 ⊢
      have z1 : (ba' s).size ≤ 20 := by rw [size_ba]; omega
      have z2 : (ba' (List.replicate c 48)).size ≤ 100 := by rw [size_ba, List.length_replicate]; omega
      have z3 : (ba' (p.take a)).size ≤ 40 := by rw [size_ba]; exact t1
      have z4 : (ba' A).size ≤ 41 := by rw [size_ba]; exact hAl
      have z5 : (ba' B).size ≤ 42 := by rw [size_ba]; exact hBl
      have z6 : (ba' (p.drop a)).size ≤ 40 := by rw [size_ba]; exact t2
      have r1 : ¬ 9223372036854775807 < 1 + (ba' (p.take a)).size := by omega
      have r2 : ¬ 9223372036854775807 < (ba' A).size + 1 := by omega
      have hszN : (ba' p).size = p.length := size_ba p
      have r4 : ¬ 9223372036854775807 < (ba' B).size + ((ba' p).size - a) := by omega
      have ex3 : (ba' p).extract a (ba' p).size = ba' (p.drop a) := by rw [hszN]; exact ex2
      clear hszN
      have r3 : ¬ 9223372036854775807 < (ba' B).size + (ba' (p.drop a)).size := by omega
      have hk0 : ¬ (k : Int) ≤ 0 := by omega
      have hk1 : ¬ (2147483644 : Int) < (k : Int) := by omega
      have ha0 : (0 : Int) ≤ (a : Int) := by omega
      unfold nv
      clear h hF hl hp hc ha hplen hA hB hC t1 t2 hAl hBl f0
      go_enter Tryd.func16, Tryd.ntmps16
      go_wp2
      go_quiet (fail)
      go_wp2_with (first
        | (go_at_call 41; refine (HU.out _).mono ?_; rintro e w1 ⟨rfl, hb1⟩; obtain ⟨hc1, hf1⟩ := bcell hb1; have y1 : w0.heap.size < w1.heap.size := zz hb1 (by simp))
        | (go_at_call 42; refine (repeat_noughts c hc9 _).mono ?_; rintro e w2 ⟨rfl, hb2⟩; obtain ⟨hc2, hf2⟩ := bcell hb2; have y2 : w0.heap.size < w2.heap.size := zz hb2 (by first | assumption | (simp; omega))))
      go_quiet (fail)
      go_wp2
      go_ret
      exact ⟨rfl, by repeat (first | exact Below.refl _ _ | apply ba | apply bd | apply bdr | (refine bt ?_ (by assumption)))⟩
    · have hF : formatL n k = [] ++ (padL n k).take ((padL n k).length - k) ++ [46] ++ (padL n k).drop ((padL n k).length - k) := by unfold formatL sgn; rw [if_neg hk, if_neg hn]
      have hw : IntKind.u64.wrap n = (n.natAbs : Int) := by rw [IntKind.wrap_u64]; omega
      have hp : padL n k = List.replicate (k + 1 - (Lib.decDigits n.natAbs).length) 48 ++ Lib.decDigits n.natAbs := rfl
      rw [hF]
      generalize padL n k = p at *
      generalize Lib.decDigits n.natAbs = s at *
      generalize (n.natAbs : Int) = u at *
      obtain ⟨c, hc⟩ : ∃ c : Nat, c = k + 1 - s.length := ⟨_, rfl⟩
      rw [← hc] at hp
      have hplen : p.length = c + s.length := by rw [hp, List.length_append, List.length_replicate]
      obtain ⟨a, ha⟩ : ∃ a : Nat, a = p.length - k := ⟨_, rfl⟩
      rw [← ha]
      have hc9 : c ≤ 100 := by omega
      have w1' : IntKind.i64.wrap ((k : Int) + 1) = (k : Int) + 1 := by rw [IntKind.wrap_i64]; omega
      have w2' : IntKind.i64.wrap ((k : Int) + 1 - (s.length : Int)) = (k : Int) + 1 - (s.length : Int) := by rw [IntKind.wrap_i64]; omega
      have hmx : max 0 ((k : Int) + 1 - (s.length : Int)) = (c : Int) := by omega
      have happ1 : ba' (List.replicate c 48) ++ ba' s = ba' p := by rw [app_ba, ← hp]
      have hap : (a : Int) ≤ (p.length : Int) := by omega
      have wat : IntKind.i64.wrap ((p.length : Int) - (k : Int)) = (a : Int) := by rw [IntKind.wrap_i64]; omega
      have ex1 : (ba' p).extract 0 a = ba' (p.take a) := by rw [extract_ba, List.drop_zero]
      have ex2 : (ba' p).extract a p.length = ba' (p.drop a) := by rw [extract_ba, List.take_length]
      have hszp : ((ba' p).size : Int) = p.length := by rw [size_ba]
      have hsz : ((ba' s).size : Int) = s.length := by rw [size_ba]
      have t1 : (p.take a).length ≤ 40 := by rw [List.length_take]; omega
      have t2 : (p.drop a).length ≤ 40 := by rw [List.length_drop]; omega
      have happ2 : (⟨#[]⟩ : ByteArray) ++ ba' (p.take a) = ba' ([] ++ p.take a) := app_ba [] (p.take a)
      have happ3 : ba' ([] ++ p.take a) ++ (⟨#[46]⟩ : ByteArray) = ba' ([] ++ p.take a ++ [46]) := app_ba ([] ++ p.take a) [46]
      have happ4 : ba' ([] ++ p.take a ++ [46]) ++ ba' (p.drop a) = ba' ([] ++ p.take a ++ [46] ++ p.drop a) := app_ba _ _
      have f0 : [] ++ p.take a = ([] ++ p.take a : List UInt8) := rfl
      obtain ⟨A, hA⟩ : ∃ A : List UInt8, [] ++ p.take a = A := ⟨_, rfl⟩
      rw [hA] at happ2 happ3 happ4 ⊢
      have hAl : A.length ≤ 41 := by rw [← hA, List.length_append]; simp only [List.length_nil]; omega
      obtain ⟨B, hB⟩ : ∃ B : List UInt8, A ++ [46] = B := ⟨_, rfl⟩
      rw [hB] at happ3 happ4 ⊢
      have hBl : B.length ≤ 42 := by rw [← hB, List.length_append]; simp only [List.length_cons, List.length_nil]; omega
      obtain ⟨C, hC⟩ : ∃ C : List UInt8, B ++ p.drop a = C := ⟨_, rfl⟩
      rw [hC] at happ4 ⊢
      have z1 : (ba' s).size ≤ 20 := by rw [size_ba]; omega
      have z2 : (ba' (List.replicate c 48)).size ≤ 100 := by rw [size_ba, List.length_replicate]; omega
      have z3 : (ba' (p.take a)).size ≤ 40 := by rw [size_ba]; exact t1
      have z4 : (ba' A).size ≤ 41 := by rw [size_ba]; exact hAl
      have z5 : (ba' B).size ≤ 42 := by rw [size_ba]; exact hBl
      have z6 : (ba' (p.drop a)).size ≤ 40 := by rw [size_ba]; exact t2
      have r1 : ¬ 9223372036854775807 < (ba' (p.take a)).size := by omega
      have r2 : ¬ 9223372036854775807 < (ba' A).size + 1 := by omega
      have hszN : (ba' p).size = p.length := size_ba p
      have r4 : ¬ 9223372036854775807 < (ba' B).size + ((ba' p).size - a) := by omega
      have ex3 : (ba' p).extract a (ba' p).size = ba' (p.drop a) := by rw [hszN]; exact ex2
      clear hszN
      have r3 : ¬ 9223372036854775807 < (ba' B).size + (ba' (p.drop a)).size := by omega
      have hk0 : ¬ (k : Int) ≤ 0 := by omega
      have hk1 : ¬ (2147483644 : Int) < (k : Int) := by omega
      have ha0 : (0 : Int) ≤ (a : Int) := by omega
      unfold nv
      clear h hF hl hp hc ha hplen hA hB hC t1 t2 hAl hBl f0
      go_enter Tryd.func16, Tryd.ntmps16
      go_wp2
      go_quiet (fail)
      go_wp2_with (first
        | (go_at_call 41; refine (HU.out _).mono ?_; rintro e w1 ⟨rfl, hb1⟩; obtain ⟨hc1, hf1⟩ := bcell hb1; have y1 : w0.heap.size < w1.heap.size := zz hb1 (by simp))
        | (go_at_call 42; refine (repeat_noughts c hc9 _).mono ?_; rintro e w2 ⟨rfl, hb2⟩; obtain ⟨hc2, hf2⟩ := bcell hb2; have y2 : w0.heap.size < w2.heap.size := zz hb2 (by first | assumption | (simp; omega))))
      go_quiet (fail)
      go_wp2
      go_ret
      exact ⟨rfl, by repeat (first | exact Below.refl _ _ | apply ba | apply bd | apply bdr | (refine bt ?_ (by assumption)))⟩
theorem format_any (n : Int) (k : Nat) (h : RightZ n k) (w0 : World) (htab : Lib.TabIs Tryd.prog w0 "internal/strconv.uint64pow10" .u64 Lib.pow10Tab) :
    Calls Tryd.prog 16 #[nv n k] w0 fun e w' => e = .returned (.string (ba' (formatL n k))) ∧ Below w0.heap.size w0 w' := by
  refine format_core n k h w0 (Lib.hid fun q => ?_)
  have hn1 := h.1
  have hn2 := h.2.1
  refine fu_any n.natAbs (by omega) _ ?_
  have := Lib.tabIs_alloc htab (.cells #[.int .i64 n, .int .i64 k] 23)
  exact this
/-- Of a small number no table is looked at. -/
theorem format_small (n : Int) (k : Nat) (h : RightZ n k) (hs : n.natAbs < 100) (w0 : World) :
    Calls Tryd.prog 16 #[nv n k] w0 fun e w' => e = .returned (.string (ba' (formatL n k))) ∧ Below w0.heap.size w0 w' := by
  refine format_core n k h w0 (Lib.hid fun q => ?_)
  exact (fu_small n.natAbs hs _).mono fun e w' ⟨a, b⟩ => ⟨a, b ▸ Below.refl _ _⟩
end Go.Proofs
