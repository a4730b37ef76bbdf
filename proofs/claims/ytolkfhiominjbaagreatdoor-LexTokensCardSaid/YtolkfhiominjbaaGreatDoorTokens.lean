/- Tokens where what they are made of is given. No condition beyond what the theorems state. -/
import Derived.Test.YtolkfhiominjbaaGreatDoorPieces
import Derived.Test.YtolkfhiominjbaaGreatDoorValid
import Derived.Shelf.Strings.SlTrimAscii
import Derived.Handy
import Derived.Deep.DeepCutAuto
import Derived.Test.YtolkfhiominjbaaGreatDoorWords
namespace Go.Proofs.YtolkfhiominjbaaGreatDoor
open Go.RowKit Go.Lib
set_option maxRecDepth 100000
set_option maxHeartbeats 8000000
theorem trimLeft_any (s c : List UInt8) (w : World) (hc : c.length < 4294967281) (ha : ∀ b ∈ c, b.toNat < 128) : Calls Tryz.prog 42 #[.string (ba' s), .string (ba' c)] w fun e w' => e = .returned (.string (ba' (Lib.trimLeftS s c))) ∧ Below w.heap.size w w' :=
  Any.strings_TrimLeft_laid Tryz.lays161 (by kernel_rfl) (ba' s) (ba' c) w (by rw [size_ba]; exact hc) fun j b hb => ha b (List.mem_of_getElem? hb)
theorem passed_any (s left : List UInt8) (h1 : Lib.trimLeftS s [9, 10, 13, 32] = left) (h2 : Lib.hasPrefix left [40, 58] = false) (w : World) :
    Calls Tryz.prog 23 #[.string (ba' s)] w fun e w' => e = .returned (.tuple #[.string (ba' left), .bool true]) ∧ Below w.heap.size w w' := by
  have HT := Lib.hid (trimLeft_any s [9, 10, 13, 32] w (by decide) (by decide))
  rw [h1] at HT
  have h2' : Lib.hasPrefix (ba' left).data.toList (⟨#[40, 58]⟩ : ByteArray).data.toList = false := h2
  clear h1 h2
  go_enter Tryz.func23, Tryz.ntmps23
  go_wp2_with fail
  refine HT.out.mono ?_
  rintro e w1 ⟨rfl, hb1⟩
  have HB1 := Lib.hid hb1
  clear hb1
  go_wp2
  refine wp_loop_rounds 1 ?_
  rw [rounds_succ]
  go_wp2_with fail
  refine (Tryz.strings_HasPrefix (ba' left) ⟨#[40, 58]⟩ w1).mono ?_
  rintro e w2 ⟨rfl, rfl⟩
  rw [h2']
  clear h2'
  go_wp2
  go_ret2
  exact ⟨rfl, HB1.out⟩
theorem quoted_end (q : UInt8) (hq : q = 34 ∨ q = 39) (s : List UInt8) (hlen : (esc q s).length ≤ 90000) (w : World) (v : Int) (hm : w.cell? ⟨2, 0, none⟩ = some (.int .i64 v)) :
    Calls Tryz.prog 46 #[.string (ba' (q :: esc q s))] w fun e w' => e = .returned (.tuple #[.int .i64 0, .string (ba' []), .int .i64 0]) ∧ Below w.heap.size w w' := by
  have HR := Lib.hid (read_any q hq s [] (.inl rfl) (by simpa using Nat.le_trans hlen (by decide)) w v hm)
  rw [List.append_nil] at HR
  have e1 : Hid ((ba' (q :: esc q s)).extract 0 1 = ba' [q]) := Lib.hid (by
    apply ByteArray.ext
    apply Array.toList_inj.1
    rw [extract_list]
    rfl)
  have e2 : Hid ((ba' (q :: esc q s)).extract 1 (ba' (q :: esc q s)).size = ba' (esc q s)) := Lib.hid (cut_drop (q :: esc q s) 1)
  have hsz := sz_cons q (esc q s)
  have hem : (ba' []).toList.isEmpty = true := by rw [toList_ba]; rfl
  have hz1 : ¬ ((ba' (q :: esc q s)).size < 1) := by omega
  go_enter Tryz.func46, Tryz.ntmps46
  go_wp2_with fail
  rw [e1.out, e2.out]
  refine HR.out.mono ?_
  rintro e w1 ⟨rfl, hb1⟩
  have HB1 := Lib.hid hb1
  clear hb1
  go_wp2
  go_ret3
  exact ⟨rfl, HB1.out⟩
theorem quoted_tok (q : UInt8) (hq : q = 34 ∨ q = 39) (s : List UInt8) (c : UInt8) (t : List UInt8) (hc : c ≠ q) (hlen : (esc q s).length + t.length ≤ 90000) (w : World) (v : Int) (hm : w.cell? ⟨2, 0, none⟩ = some (.int .i64 v)) :
    Calls Tryz.prog 46 #[.string (ba' (q :: (esc q s ++ q :: c :: t)))] w fun e w' => e = .returned (.tuple #[.int .i64 5, .string (ba' s), .int .i64 ((esc q s).length + 2 : Nat)]) ∧ Below w.heap.size w w' := by
  have HR := Lib.hid (read_any q hq s (q :: c :: t) (.inr ⟨c, t, rfl, hc⟩) (by simp only [List.length_append, List.length_cons]; omega) w v hm)
  obtain ⟨X, hX⟩ : ∃ X, esc q s ++ q :: c :: t = X := ⟨_, rfl⟩
  have HXL : Hid (X.length = (esc q s).length + t.length + 2) := Lib.hid (by rw [← hX]; simp; omega)
  rw [hX] at HR ⊢
  have e1 : Hid ((ba' (q :: X)).extract 0 1 = ba' [q]) := Lib.hid (by
    apply ByteArray.ext
    apply Array.toList_inj.1
    rw [extract_list]
    rfl)
  have e2 : Hid ((ba' (q :: X)).extract 1 (ba' (q :: X)).size = ba' X) := Lib.hid (cut_drop (q :: X) 1)
  have hsz := sz_cons q X
  have hem : (ba' (q :: c :: t)).toList.isEmpty = false := by rw [toList_ba]; rfl
  have hz1 : ¬ ((ba' (q :: X)).size < 1) := by omega
  go_enter Tryz.func46, Tryz.ntmps46
  go_wp2_with fail
  rw [e1.out, e2.out]
  refine HR.out.mono ?_
  rintro e w1 ⟨rfl, hb1⟩
  have HB1 := Lib.hid hb1
  have s1 : (ba' (q :: X)).size = (esc q s).length + t.length + 3 := by rw [size_ba, List.length_cons, HXL.out]
  have s2 : (ba' (q :: c :: t)).size = t.length + 2 := by rw [size_ba]; rfl
  have s3 : (ba' [q]).size = 1 := by rw [size_ba]; rfl
  clear hb1 hX hsz hz1
  go_wp2
  go_ret3
  refine ⟨?_, HB1.out⟩
  rw [show (((esc q s).length : Nat) : Int) + (t.length : Int) + 3 - ((t.length : Int) + 2) + 1 = ((esc q s).length + 2 : Nat) by omega]
  rfl
/-- What begins with a quote is quoted. -/
theorem token_quote (q : UInt8) (hq : q = 34 ∨ q = 39) (X : List UInt8) (k n : Int) (text : List UInt8) (w : World) (H : Hid (Calls Tryz.prog 46 #[.string (ba' (q :: X))] w fun e w' => e = .returned (.tuple #[.int .i64 k, .string (ba' text), .int .i64 n]) ∧ Below w.heap.size w w')) :
    Calls Tryz.prog 24 #[.string (ba' (q :: X))] w fun e w' => e = .returned (.tuple #[.int .i64 k, .string (ba' text), .int .i64 n]) ∧ Below w.heap.size w w' := by
  have hsz := sz_cons q X
  have g36 : ((((ba' (q :: X))[0]'hsz).toNat : Int) == 36) = false := by rw [at_cons]; rcases hq with rfl | rfl <;> rfl
  rcases hq with rfl | rfl
  · have g34 : ((((ba' (34 :: X))[0]'hsz).toNat : Int) == 34) = true := rfl
    go_enter Tryz.func24, Tryz.ntmps24
    go_wp2_with fail
    refine H.out.mono ?_
    rintro e w1 ⟨rfl, hb1⟩
    have HB1 := Lib.hid hb1
    clear hb1
    go_wp2
    go_ret3
    exact ⟨rfl, HB1.out⟩
  · have g34 : ((((ba' (39 :: X))[0]'hsz).toNat : Int) == 34) = false := rfl
    have g39 : ((((ba' (39 :: X))[0]'hsz).toNat : Int) == 39) = true := rfl
    go_enter Tryz.func24, Tryz.ntmps24
    go_wp2_with fail
    refine H.out.mono ?_
    rintro e w1 ⟨rfl, hb1⟩
    have HB1 := Lib.hid hb1
    clear hb1
    go_wp2
    go_ret3
    exact ⟨rfl, HB1.out⟩
theorem readable_any (s : List UInt8) (h : s.length ≤ 65536) (hv : validX s = true) (w : World) (hT : tabs w) : Calls Tryz.prog 12 #[.string (ba' s), .int .i64 0] w fun e w' => e = .returned (.bool true) ∧ Below w.heap.size w w' := by
  have hs : (ba' s).size = s.length := size_ba s
  have HV := Lib.hid (valid_any (some ⟨w.heap.size, 0, none⟩) 1 1 [ba' s] (w.alloc (.cells #[.string (ba' s)] 9)) rfl (by decide) (Utf8Tabs_below hT (ba (Below.refl _ _))) (one_str w (ba' s) (by rw [size_ba]; unfold maxLen; omega)))
  have e1 : [ba' s].all vS = true := by
    show (vS (ba' s) && true) = true
    rw [Bool.and_true]
    exact hv
  rw [e1] at HV
  clear hv hT e1
  go_enter Tryz.func12, Tryz.ntmps12
  go_wp2_with fail
  refine HV.out.mono ?_
  rintro e w1 ⟨rfl, hb1⟩
  have HB1 := Lib.hid (bt (ba (Below.refl _ _)) hb1)
  clear hb1
  go_wp2
  go_ret
  exact ⟨rfl, HB1.out⟩
/-- The next token, where there is one. -/
theorem next_tok (s left text : List UInt8) (at' k n : Nat) (w : World) (hs : s.length ≤ 70000) (hat : at' ≤ s.length) (hl : left.length ≤ s.length) (hne : left ≠ []) (hn : 0 < n) (hn2 : n ≤ 70000)
    (HP : Hid (∀ w1, Below w.heap.size w w1 → Calls Tryz.prog 23 #[.string (ba' (s.drop at'))] w1 fun e w' => e = .returned (.tuple #[.string (ba' left), .bool true]) ∧ Below w1.heap.size w1 w'))
    (HT : Hid (∀ w1, Below w.heap.size w w1 → Calls Tryz.prog 24 #[.string (ba' left)] w1 fun e w' => e = .returned (.tuple #[.int .i64 k, .string (ba' text), .int .i64 n]) ∧ Below w1.heap.size w1 w')) :
    Calls Tryz.prog 13 #[.string (ba' s), .int .i64 at'] w fun e w' => e = .returned (.tuple #[.agg #[.int .i64 k, .string (ba' text), .int .i64 (s.length - left.length : Nat), .int .i64 (s.length - left.length + n : Nat)], .int .i64 0]) ∧ Below w.heap.size w w' := by
  have s1 : (ba' s).size = s.length := size_ba s
  have s2 : (ba' left).size = left.length := size_ba left
  have hem : (ba' left).toList.isEmpty = false := by rw [toList_ba]; cases left with | nil => exact absurd rfl hne | cons => rfl
  have HEX : Hid ((ba' s).extract at' s.length = ba' (s.drop at')) := Lib.hid (by rw [← s1]; exact cut_drop s at')
  have g0 : ((n : Int) == 0) = false := by rw [beq_eq_false_iff_ne]; omega
  have ga : ¬ ((s.length : Int) < (at' : Int)) := by omega
  go_enter Tryz.func13, Tryz.ntmps13
  go_wp2_with fail
  rw [HEX.out]
  refine (HP.out _ (ba (Below.refl _ _))).mono ?_
  rintro e w1 ⟨rfl, hb1⟩
  have HB1 : Hid (Below w.heap.size w w1) := Lib.hid (bt (ba (Below.refl _ _)) hb1)
  have c0 := fun o => hb1.cell (p := ⟨w.heap.size, o, none⟩) (by simp)
  have f0 := fun o => hb1.frozen (p := ⟨w.heap.size, o, none⟩) (by simp)
  have z1 : w.heap.size < w1.heap.size := zz hb1 (by simp)
  clear hb1
  go_wp2_with fail
  refine (HT.out _ HB1.out).mono ?_
  rintro e w2 ⟨rfl, hb2⟩
  have HB2 : Hid (Below w.heap.size w w2) := Lib.hid (bt HB1.out hb2)
  have c2 := fun o => (hb2.cell (p := ⟨w.heap.size, o, none⟩) z1).trans (c0 o)
  have f2 := fun o => (hb2.frozen (p := ⟨w.heap.size, o, none⟩) z1).trans (f0 o)
  have z2 : w.heap.size < w2.heap.size := zz hb2 z1
  clear hb2 c0 f0
  have k1 : ((s.length : Int) - (left.length : Int)) = (s.length - left.length : Nat) := by omega
  go_wp2
  refine bodyPost_ret (v := .tuple #[.agg #[.int .i64 k, .string (ba' text), .int .i64 (s.length - left.length : Nat), .int .i64 (s.length - left.length + n : Nat)], .int .i64 0]) ?_ rfl ⟨rfl, ?_⟩
  · rw [show ((s.length - left.length + n : Nat) : Int) = ((s.length - left.length : Nat) : Int) + (n : Int) by omega]
    have d0 : w2.cell? ⟨w.heap.size, 0, none⟩ = some (.int .i64 0) := (c2 0).trans (by simp)
    have d1 : w2.cell? ⟨w.heap.size, 1, none⟩ = some (.string ⟨#[]⟩) := (c2 1).trans (by simp)
    have d2 : w2.cell? ⟨w.heap.size, 2, none⟩ = some (.int .i64 0) := (c2 2).trans (by simp)
    have d3 : w2.cell? ⟨w.heap.size, 3, none⟩ = some (.int .i64 0) := (c2 3).trans (by simp)
    clear c2 f2
    simp [results, Tryz.results13, go_sem, *]
  · exact (((HB2.out.setCell (p := ⟨w.heap.size, 0, none⟩) (Nat.le_refl _) _).setCell (p := ⟨w.heap.size, 1, none⟩) (Nat.le_refl _) _).setCell (p := ⟨w.heap.size, 2, none⟩) (Nat.le_refl _) _).setCell (p := ⟨w.heap.size, 3, none⟩) (Nat.le_refl _) _
/-- Where no token begins. -/
theorem next_bad (s left text : List UInt8) (at' k : Nat) (w : World) (hs : s.length ≤ 70000) (hat : at' ≤ s.length) (hl : left.length ≤ s.length) (hne : left ≠ [])
    (HP : Hid (∀ w1, Below w.heap.size w w1 → Calls Tryz.prog 23 #[.string (ba' (s.drop at'))] w1 fun e w' => e = .returned (.tuple #[.string (ba' left), .bool true]) ∧ Below w1.heap.size w1 w'))
    (HT : Hid (∀ w1, Below w.heap.size w w1 → Calls Tryz.prog 24 #[.string (ba' left)] w1 fun e w' => e = .returned (.tuple #[.int .i64 k, .string (ba' text), .int .i64 0]) ∧ Below w1.heap.size w1 w')) :
    Calls Tryz.prog 13 #[.string (ba' s), .int .i64 at'] w fun e w' => e = .returned (.tuple #[.agg #[.int .i64 0, .string ⟨#[]⟩, .int .i64 0, .int .i64 0], .int .i64 40]) ∧ Below w.heap.size w w' := by
  have s1 : (ba' s).size = s.length := size_ba s
  have s2 : (ba' left).size = left.length := size_ba left
  have hem : (ba' left).toList.isEmpty = false := by rw [toList_ba]; cases left with | nil => exact absurd rfl hne | cons => rfl
  have HEX : Hid ((ba' s).extract at' s.length = ba' (s.drop at')) := Lib.hid (by rw [← s1]; exact cut_drop s at')
  have ga : ¬ ((s.length : Int) < (at' : Int)) := by omega
  go_enter Tryz.func13, Tryz.ntmps13
  go_wp2_with fail
  rw [HEX.out]
  refine (HP.out _ (ba (Below.refl _ _))).mono ?_
  rintro e w1 ⟨rfl, hb1⟩
  have HB1 : Hid (Below w.heap.size w w1) := Lib.hid (bt (ba (Below.refl _ _)) hb1)
  have c0 := fun o => hb1.cell (p := ⟨w.heap.size, o, none⟩) (by simp)
  have f0 := fun o => hb1.frozen (p := ⟨w.heap.size, o, none⟩) (by simp)
  have z1 : w.heap.size < w1.heap.size := zz hb1 (by simp)
  clear hb1
  go_wp2_with fail
  refine (HT.out _ HB1.out).mono ?_
  rintro e w2 ⟨rfl, hb2⟩
  have HB2 : Hid (Below w.heap.size w w2) := Lib.hid (bt HB1.out hb2)
  have c2 := fun o => (hb2.cell (p := ⟨w.heap.size, o, none⟩) z1).trans (c0 o)
  have f2 := fun o => (hb2.frozen (p := ⟨w.heap.size, o, none⟩) z1).trans (f0 o)
  have z2 : w.heap.size < w2.heap.size := zz hb2 z1
  clear hb2 c0 f0
  have k1 : ((s.length : Int) - (left.length : Int)) = (s.length - left.length : Nat) := by omega
  go_wp2
  refine bodyPost_ret (v := .tuple #[.agg #[.int .i64 0, .string ⟨#[]⟩, .int .i64 0, .int .i64 0], .int .i64 40]) ?_ rfl ⟨rfl, ?_⟩
  · have d0 : w2.cell? ⟨w.heap.size, 0, none⟩ = some (.int .i64 0) := (c2 0).trans (by simp)
    have d1 : w2.cell? ⟨w.heap.size, 1, none⟩ = some (.string ⟨#[]⟩) := (c2 1).trans (by simp)
    have d2 : w2.cell? ⟨w.heap.size, 2, none⟩ = some (.int .i64 0) := (c2 2).trans (by simp)
    have d3 : w2.cell? ⟨w.heap.size, 3, none⟩ = some (.int .i64 0) := (c2 3).trans (by simp)
    clear c2 f2
    simp [results, Tryz.results13, go_sem, *]
  · exact (((HB2.out.setCell (p := ⟨w.heap.size, 0, none⟩) (Nat.le_refl _) _).setCell (p := ⟨w.heap.size, 1, none⟩) (Nat.le_refl _) _).setCell (p := ⟨w.heap.size, 2, none⟩) (Nat.le_refl _) _).setCell (p := ⟨w.heap.size, 3, none⟩) (Nat.le_refl _) _
/-- At a text's end. -/
theorem next_end (s : List UInt8) (at' : Nat) (w : World) (hs : s.length ≤ 70000) (hat : at' ≤ s.length)
    (HP : Hid (∀ w1, Below w.heap.size w w1 → Calls Tryz.prog 23 #[.string (ba' (s.drop at'))] w1 fun e w' => e = .returned (.tuple #[.string (ba' []), .bool true]) ∧ Below w1.heap.size w1 w')) :
    Calls Tryz.prog 13 #[.string (ba' s), .int .i64 at'] w fun e w' => e = .returned (.tuple #[.agg #[.int .i64 0, .string ⟨#[]⟩, .int .i64 s.length, .int .i64 s.length], .int .i64 0]) ∧ Below w.heap.size w w' := by
  have s1 : (ba' s).size = s.length := size_ba s
  have s2 : (ba' []).size = 0 := size_ba []
  have hem : (ba' []).toList.isEmpty = true := by rw [toList_ba]; rfl
  have HEX : Hid ((ba' s).extract at' s.length = ba' (s.drop at')) := Lib.hid (by rw [← s1]; exact cut_drop s at')
  have ga : ¬ ((s.length : Int) < (at' : Int)) := by omega
  go_enter Tryz.func13, Tryz.ntmps13
  go_wp2_with fail
  rw [HEX.out]
  refine (HP.out _ (ba (Below.refl _ _))).mono ?_
  rintro e w1 ⟨rfl, hb1⟩
  have HB2 : Hid (Below w.heap.size w w1) := Lib.hid (bt (ba (Below.refl _ _)) hb1)
  have c2 := fun o => hb1.cell (p := ⟨w.heap.size, o, none⟩) (by simp)
  have f0 := fun o => hb1.frozen (p := ⟨w.heap.size, o, none⟩) (by simp)
  have z1 : w.heap.size < w1.heap.size := zz hb1 (by simp)
  clear hb1
  go_wp2
  refine bodyPost_ret (v := .tuple #[.agg #[.int .i64 0, .string ⟨#[]⟩, .int .i64 s.length, .int .i64 s.length], .int .i64 0]) ?_ rfl ⟨rfl, ?_⟩
  · have d0 : w1.cell? ⟨w.heap.size, 0, none⟩ = some (.int .i64 0) := (c2 0).trans (by simp)
    have d1 : w1.cell? ⟨w.heap.size, 1, none⟩ = some (.string ⟨#[]⟩) := (c2 1).trans (by simp)
    have d2 : w1.cell? ⟨w.heap.size, 2, none⟩ = some (.int .i64 0) := (c2 2).trans (by simp)
    have d3 : w1.cell? ⟨w.heap.size, 3, none⟩ = some (.int .i64 0) := (c2 3).trans (by simp)
    clear c2 f0
    simp [results, Tryz.results13, go_sem, *]
  · exact (((HB2.out.setCell (p := ⟨w.heap.size, 0, none⟩) (Nat.le_refl _) _).setCell (p := ⟨w.heap.size, 1, none⟩) (Nat.le_refl _) _).setCell (p := ⟨w.heap.size, 2, none⟩) (Nat.le_refl _) _).setCell (p := ⟨w.heap.size, 3, none⟩) (Nat.le_refl _) _
/-- Next of a readable text. -/
theorem Next_any (s : List UInt8) (t0 t2 t3 : Int) (t1 : ByteArray) (e0 : Int) (w : World) (hs : s.length ≤ 65536) (hv : validX s = true) (hTb : tabs w)
    (HN : Hid (∀ w1, Below w.heap.size w w1 → Calls Tryz.prog 13 #[.string (ba' s), .int .i64 0] w1 fun e w' => e = .returned (.tuple #[.agg #[.int .i64 t0, .string t1, .int .i64 t2, .int .i64 t3], .int .i64 e0]) ∧ Below w1.heap.size w1 w')) :
    Calls Tryz.prog 7 #[.string (ba' s), .int .i64 0] w fun e w' => e = .returned (.tuple #[.agg #[.int .i64 t0, .string t1, .int .i64 t2, .int .i64 t3], .int .i64 e0]) ∧ Below w.heap.size w w' := by
  have HR := Lib.hid (fun w1 hb1 => readable_any s hs hv w1 (Utf8Tabs_below hTb hb1))
  clear hv hTb hs
  go_enter Tryz.func7, Tryz.ntmps7
  go_wp2_with fail
  refine (HR.out _ (ba (Below.refl _ _))).mono ?_
  rintro e w1 ⟨rfl, hb1⟩
  have HB1 : Hid (Below w.heap.size w w1) := Lib.hid (bt (ba (Below.refl _ _)) hb1)
  have c0 := fun o => hb1.cell (p := ⟨w.heap.size, o, none⟩) (by simp)
  have f0 := fun o => hb1.frozen (p := ⟨w.heap.size, o, none⟩) (by simp)
  have z1 : w.heap.size < w1.heap.size := zz hb1 (by simp)
  clear hb1
  go_wp2_with fail
  refine (HN.out _ HB1.out).mono ?_
  rintro e w2 ⟨rfl, hb2⟩
  have HB2 : Hid (Below w.heap.size w w2) := Lib.hid (bt HB1.out hb2)
  have c2 := fun o => (hb2.cell (p := ⟨w.heap.size, o, none⟩) z1).trans (c0 o)
  have f2 := fun o => (hb2.frozen (p := ⟨w.heap.size, o, none⟩) z1).trans (f0 o)
  have z2 : w.heap.size < w2.heap.size := zz hb2 z1
  clear hb2 c0 f0
  go_wp2
  refine bodyPost_ret (v := .tuple #[.agg #[.int .i64 t0, .string t1, .int .i64 t2, .int .i64 t3], .int .i64 e0]) ?_ rfl ⟨rfl, ?_⟩
  · have d0 : w2.cell? ⟨w.heap.size, 0, none⟩ = some (.int .i64 0) := (c2 0).trans (by simp)
    have d1 : w2.cell? ⟨w.heap.size, 1, none⟩ = some (.string ⟨#[]⟩) := (c2 1).trans (by simp)
    have d2 : w2.cell? ⟨w.heap.size, 2, none⟩ = some (.int .i64 0) := (c2 2).trans (by simp)
    have d3 : w2.cell? ⟨w.heap.size, 3, none⟩ = some (.int .i64 0) := (c2 3).trans (by simp)
    clear c2 f2
    simp [results, Tryz.results7, go_sem, *]
  · exact (((HB2.out.setCell (p := ⟨w.heap.size, 0, none⟩) (Nat.le_refl _) _).setCell (p := ⟨w.heap.size, 1, none⟩) (Nat.le_refl _) _).setCell (p := ⟨w.heap.size, 2, none⟩) (Nat.le_refl _) _).setCell (p := ⟨w.heap.size, 3, none⟩) (Nat.le_refl _) _
end Go.Proofs.YtolkfhiominjbaaGreatDoor
namespace Go.Proofs.YtolkfhiominjbaaGreatDoor
open Go.RowKit Go.Lib
set_option maxRecDepth 100000
set_option maxHeartbeats 8000000
theorem ba_app (a b : List UInt8) : ba' a ++ ba' b = ba' (a ++ b) := by
  apply ByteArray.ext
  apply Array.toList_inj.1
  simp [ba']
theorem cut_one (s : List UInt8) (i : Nat) (c : UInt8) (h : s[i]? = some c) : (ba' s).extract i (i + 1) = ba' [c] := by
  apply ByteArray.ext
  apply Array.toList_inj.1
  rw [extract_list]
  show (s.take (i + 1)).drop i = [c]
  have hl : i < s.length := (List.getElem?_eq_some_iff.1 h).1
  rw [List.take_add_one, h, List.drop_append_of_le_length (by rw [List.length_take]; omega), List.drop_eq_nil_of_le (by rw [List.length_take]; omega)]
  rfl
theorem cut_take (l : List UInt8) (k : Nat) : (ba' l).extract 0 k = ba' (l.take k) := by
  apply ByteArray.ext
  apply Array.toList_inj.1
  rw [extract_list]
  rfl
theorem esc_le (q : UInt8) : ∀ l : List UInt8, (esc q l).length ≤ 5 * l.length
  | [] => Nat.le_refl _
  | a :: l => by
    have := esc_le q l
    rw [esc_cons, List.length_append, List.length_cons]
    have : (escB q a).length ≤ 5 := by
      unfold escB
      split
      · simp
      · split <;> simp
    omega
theorem eq_bytes {a b : List UInt8} (h : a ≠ b) : ((ba' a).toList == (ba' b).toList) = false := by
  rw [toList_ba, toList_ba]
  simpa using h
theorem valid_all (q : UInt8) (hq : q = 34 ∨ q = 39) (s : List UInt8) (hv : validX s = true) : validX (q :: esc q s) = true ∧ validX (32 :: q :: (esc q s ++ [q, 97])) = true := by
  have hvq : validX [q] = true := by rcases hq with rfl | rfl <;> decide
  have hve := esc_valid q hq _ s (Nat.le_refl _) hv
  constructor
  · have := validX_append (esc q s) hvq
    rw [List.singleton_append] at this
    rw [this]; exact hve
  · have h1 : validX [32, q] = true := by rcases hq with rfl | rfl <;> decide
    have h2 : validX [q, 97] = true := by rcases hq with rfl | rfl <;> decide
    have := validX_append (esc q s ++ [q, 97]) h1
    have e : [32, q] ++ (esc q s ++ [q, 97]) = 32 :: q :: (esc q s ++ [q, 97]) := rfl
    rw [e] at this
    rw [this, validX_append _ hve]; exact h2
theorem next_yes (q : UInt8) (hq : q = 34 ∨ q = 39) (s : List UInt8) (hs : s.length ≤ 3000) (hv : validX s = true) (w : World) (hT : tabs w) (v : Int) (hm : w.cell? ⟨2, 0, none⟩ = some (.int .i64 v)) :
    Calls Tryz.prog 7 #[.string (ba' (32 :: q :: (esc q s ++ [q, 97]))), .int .i64 0] w fun e w' => e = .returned (.tuple #[.agg #[.int .i64 5, .string (ba' s), .int .i64 1, .int .i64 (((esc q s).length + 3 : Nat) : Int)], .int .i64 0]) ∧ Below w.heap.size w w' := by
  have hl := esc_le q s
  have hg2 : 2 < w.heap.size := World.block_lt_of_cell? w ⟨2, 0, none⟩ hm
  have hlen : (32 :: q :: (esc q s ++ [q, 97])).length = (esc q s).length + 4 := by simp
  have hlen2 : (q :: (esc q s ++ q :: 97 :: [])).length = (esc q s).length + 3 := by simp
  refine Next_any _ _ _ _ _ _ w (by rw [hlen]; omega) (valid_all q hq s hv).2 hT (Lib.hid fun w1 hb1 => ?_)
  have h := next_tok (32 :: q :: (esc q s ++ [q, 97])) (q :: (esc q s ++ q :: 97 :: [])) s 0 5 ((esc q s).length + 2) w1 (by rw [hlen]; omega) (Nat.zero_le _) (by rw [hlen, hlen2]; omega) (by simp) (by omega) (by omega)
    (Lib.hid fun w2 hb2 => passed_any _ (q :: (esc q s ++ q :: 97 :: [])) (by rcases hq with rfl | rfl <;> rfl) (by rcases hq with rfl | rfl <;> rfl) w2)
    (Lib.hid fun w2 hb2 => token_quote q hq (esc q s ++ q :: 97 :: []) 5 ((esc q s).length + 2 : Nat) s w2 (Lib.hid (quoted_tok q hq s 97 [] (by rcases hq with rfl | rfl <;> decide) (by simp; omega) w2 v ((hb2.cell (p := ⟨2, 0, none⟩) (Nat.lt_of_lt_of_le hg2 hb1.size)).trans ((hb1.cell (p := ⟨2, 0, none⟩) hg2).trans hm)))))
  rw [hlen, hlen2, show (esc q s).length + 4 - ((esc q s).length + 3) = 1 by omega, show 1 + ((esc q s).length + 2) = (esc q s).length + 3 by omega] at h
  exact h
theorem next_no (q : UInt8) (hq : q = 34 ∨ q = 39) (s : List UInt8) (hs : s.length ≤ 3000) (hv : validX s = true) (w : World) (hT : tabs w) (v : Int) (hm : w.cell? ⟨2, 0, none⟩ = some (.int .i64 v)) :
    Calls Tryz.prog 7 #[.string (ba' (q :: esc q s)), .int .i64 0] w fun e w' => e = .returned (.tuple #[.agg #[.int .i64 0, .string ⟨#[]⟩, .int .i64 0, .int .i64 0], .int .i64 40]) ∧ Below w.heap.size w w' := by
  have hl := esc_le q s
  have hg2 : 2 < w.heap.size := World.block_lt_of_cell? w ⟨2, 0, none⟩ hm
  have hlen : (q :: esc q s).length = (esc q s).length + 1 := by simp
  refine Next_any _ _ _ _ _ _ w (by rw [hlen]; omega) (valid_all q hq s hv).1 hT (Lib.hid fun w1 hb1 => ?_)
  exact next_bad (q :: esc q s) (q :: esc q s) [] 0 0 w1 (by rw [hlen]; omega) (Nat.zero_le _) (Nat.le_refl _) (by simp)
    (Lib.hid fun w2 hb2 => passed_any _ (q :: esc q s) (by rcases hq with rfl | rfl <;> rfl) (by rcases hq with rfl | rfl <;> rfl) w2)
    (Lib.hid fun w2 hb2 => token_quote q hq (esc q s) 0 0 [] w2 (Lib.hid (quoted_end q hq s (by omega) w2 v ((hb2.cell (p := ⟨2, 0, none⟩) (Nat.lt_of_lt_of_le hg2 hb1.size)).trans ((hb1.cell (p := ⟨2, 0, none⟩) hg2).trans hm)))))
end Go.Proofs.YtolkfhiominjbaaGreatDoor
namespace Go.Proofs.YtolkfhiominjbaaGreatDoor
open Go.RowKit Go.Lib
set_option maxRecDepth 100000
set_option maxHeartbeats 8000000
def tens : List UInt8 := [48, 49, 50, 51, 52, 53, 54, 55, 56, 57]
theorem digits_any (s left : List UInt8) (h : Lib.trimLeftS s tens = left) (hs : s.length ≤ 70000) (hl : left.length ≤ 70000) (w : World) :
    Calls Tryz.prog 47 #[.string (ba' s)] w fun e w' => e = .returned (.int .i64 ((s.length : Int) - (left.length : Int))) ∧ Below w.heap.size w w' := by
  have HT := Lib.hid (trimLeft_any s tens w (by decide) (by decide))
  rw [h] at HT
  clear h
  have s1 : (ba' s).size = s.length := size_ba s
  have s2 : (ba' left).size = left.length := size_ba left
  go_enter Tryz.func47, Tryz.ntmps47
  go_wp2_with fail
  refine HT.out.mono ?_
  rintro e w1 ⟨rfl, hb1⟩
  have HB1 := Lib.hid hb1
  clear hb1
  go_wp2
  go_ret
  exact ⟨rfl, HB1.out⟩
/-- A text that begins with an ASCII byte begins with a letter, if that is one. -/
theorem begins_any (c : UInt8) (s : List UInt8) (hc : c.toNat < 128) (w : World) (hT : tabs w) :
    Calls Tryz.prog 67 #[.string (ba' (c :: s))] w fun e w' => e = .returned (.bool (nameX [c])) ∧ Below w.heap.size w w' := by
  have HD := Lib.hid (Tryz.utf8_DecodeRuneInString_ascii (ba' (c :: s)) c w rfl hc)
  have HN := Lib.hid (name_any (ba' [c]) w (by rw [size_ba]; show 1 ≤ maxLen; decide) hT)
  have HEX : Hid ((ba' (c :: s)).extract 0 1 = ba' [c]) := Lib.hid (cut_one (c :: s) 0 c rfl)
  have hz : ¬ ((ba' (c :: s)).size < 1) := by have := sz_cons c s; omega
  have e1 : (ba' [c]).data.toList = [c] := rfl
  rw [e1] at HN
  clear hT
  go_enter Tryz.func67, Tryz.ntmps67
  go_wp2_with fail
  refine HD.out.mono ?_
  rintro e w1 ⟨rfl, rfl⟩
  go_wp2_with fail
  rw [HEX.out]
  refine HN.out.mono ?_
  rintro e w2 ⟨rfl, hb2⟩
  have HB1 := Lib.hid hb2
  clear hb2
  go_wp2
  go_ret
  exact ⟨rfl, HB1.out⟩
theorem begins_nil (w : World) (hT : tabs w) :
    Calls Tryz.prog 67 #[.string (ba' [])] w fun e w' => e = .returned (.bool false) ∧ Below w.heap.size w w' := by
  have HD := Lib.hid (Tryz.utf8_DecodeRuneInString (ba' []) w hT)
  have HN : Hid (∀ w1, Below w.heap.size w w1 → _) := Lib.hid fun w1 hb1 => (name_any (ba' []) w1 (by rw [size_ba]; decide) (Utf8Tabs_below hT hb1))
  have e1 : (ba' []).data.toList = [] := rfl
  have e2 : Lib.decodeGo (ba' []) = (65533, 0) := rfl
  rw [e1, nameX_nil] at HN
  rw [e2] at HD
  clear hT
  go_enter Tryz.func67, Tryz.ntmps67
  go_wp2_with fail
  refine HD.out.mono ?_
  rintro e w1 ⟨rfl, hb1⟩
  have HB1 := Lib.hid hb1
  clear hb1
  go_wp2_with fail
  refine (HN.out w1 HB1.out).mono ?_
  rintro e w2 ⟨rfl, hb2⟩
  have HB2 := Lib.hid (bt HB1.out hb2)
  clear hb2
  go_wp2
  go_ret
  exact ⟨rfl, HB2.out⟩
theorem n_x : nameX [120] = true := by kernel_rfl
theorem n_ux : nameX [95, 120] = true := by kernel_rfl
theorem n_up : nameX [95, 43] = false := by kernel_rfl
theorem n_sp : nameX [32] = false := by kernel_rfl
theorem n_a : nameX [97] = true := by kernel_rfl
def txA : List UInt8 := [36, 120, 43, 49, 46, 53, 32, 40, 58, 32, 114, 32, 58, 41, 32, 97, 45, 98]
/-- A sign of one byte. -/
theorem sign_one (c d : UInt8) (t : List UInt8) (h1 : c = 43) (h2 : t.length ≤ 70000) (w : World) : Calls Tryz.prog 49 #[.string (ba' (c :: d :: t))] w fun e w' => e = .returned (.string (ba' [43])) ∧ Below w.heap.size w w' := by
  subst h1
  have HI := Lib.hid (Tryz.strings_IndexByte ⟨#[40, 41, 91, 93, 123, 125, 44, 59, 46, 47, 64, 42, 43, 45, 61, 60, 62, 124, 63]⟩ 43 w)
  have e1 : Lib.indexByte [40, 41, 91, 93, 123, 125, 44, 59, 46, 47, 64, 42, 43, 45, 61, 60, 62, 124, 63] (43 : Int).toNat.toUInt8 = 12 := by kernel_rfl
  have s1 : (ba' (43 :: d :: t)).size = t.length + 2 := by rw [size_ba]; rfl
  have hsz := sz_cons 43 (d :: t)
  have g0 : (((ba' (43 :: d :: t))[0]'hsz).toNat : Int) = 43 := rfl
  have gx : ((ba' (43 :: d :: t)).extract 0 2).toList = [43, d] := by
    rw [ByteArray.toList_eq, extract_list]
    rfl
  have HEX : Hid ((ba' (43 :: d :: t)).extract 0 1 = ba' [43]) := Lib.hid (cut_one (43 :: d :: t) 0 43 rfl)
  have g2 : decide ((1 : Int) < (t.length : Int) + 2) = true := by simp; omega
  go_enter Tryz.func49, Tryz.ntmps49
  go_wp2_with fail
  refine HI.out.mono ?_
  rintro e w1 ⟨rfl, rfl⟩
  rw [show Lib.indexByte (⟨#[40, 41, 91, 93, 123, 125, 44, 59, 46, 47, 64, 42, 43, 45, 61, 60, 62, 124, 63]⟩ : ByteArray).data.toList (43 : Int).toNat.toUInt8 = 12 from e1]
  have r1 : ¬ ((ba' (43 :: d :: t)).size < 1) := by omega
  go_wp2
  rw [HEX.out]
  go_ret
  exact ⟨rfl, Below.refl _ _⟩
theorem enc_low (c : UInt8) (h : c.toNat < 128) : Utf8.encode (c.toNat : Int) = ba' [c] := by
  have h1 : ∀ n, n < 128 → (Utf8.encode ((n : Nat) : Int)).data.toList = [n.toUInt8] := by decide +kernel
  apply ByteArray.ext
  apply Array.toList_inj.1
  rw [h1 _ h]
  show [c.toNat.toUInt8] = [c]
  simp
/-- The longest name of ASCII letters that a text begins with. -/
theorem plain_on (P S : List UInt8) (HA : Hid (∀ c ∈ P, c.toNat < 128 ∧ nameX [95, c] = true)) (HB : Hid (S.drop P.length = [] ∨ ∃ c t, S.drop P.length = c :: t ∧ c.toNat < 128 ∧ nameX [95, c] = false)) (HTK : Hid (S.take P.length = P)) (_hl : S.length ≤ 70000) (hlP : P.length ≤ S.length) (w : World)
    (HL : Hid (Calls Tryz.prog 67 #[.string (ba' S)] w fun e w' => e = .returned (.bool true) ∧ Below w.heap.size w w'))
    (HN : Hid (∀ (c : UInt8) w1, Below w.heap.size w w1 → Calls Tryz.prog 78 #[.string (ba' [95, c])] w1 fun e w' => e = .returned (.bool (nameX [95, c])) ∧ Below w1.heap.size w1 w')) :
    Calls Tryz.prog 66 #[.string (ba' S)] w fun e w' => e = .returned (.string (ba' P)) ∧ Below w.heap.size w w' := by
  have s1 : (ba' S).size = S.length := size_ba _
  go_enter Tryz.func66, Tryz.ntmps66
  go_wp2_with fail
  refine HL.out.mono ?_
  rintro e w1 ⟨rfl, hb1⟩
  have HB1 := Lib.hid hb1
  clear hb1
  go_wp2
  go_loopg [3] S.length (fun gf s3 wx => ∃ pos, pos ≤ P.length ∧ S.length ≤ pos + gf ∧ wx.heap[w1.heap.size]? = some (.stringIter (ba' S) pos) ∧ Hid (Below w.heap.size w wx))
  case atStart => exact ⟨0, Nat.zero_le _, by omega, World.iter_heap w1 (ba' S) 0, Lib.hid (ba HB1.out)⟩
  case round =>
    obtain ⟨pos, hpp, hfu, hit, HBW⟩ := hrel
    by_cases hlt : pos < P.length
    · obtain ⟨g', rfl⟩ : ∃ g', gk = g' + 1 := ⟨gk - 1, by omega⟩
      have hsp : pos < (ba' S).size := by omega
      obtain ⟨c, hc⟩ : ∃ c, (ba' S)[pos]'hsp = c := ⟨_, rfl⟩
      have HC : Hid (c ∈ P) := Lib.hid (by
        have h1 : S[pos]'(by omega) = c := hc
        rw [← HTK.out, ← h1]
        rw [List.mem_take_iff_getElem]
        exact ⟨pos, by omega, rfl⟩)
      have hcl := (HA.out c HC.out).1
      have hnx : ∀ ty, (Instr.next (.pointer (some ⟨w1.heap.size, 0, none⟩)) true ty).run Tryz.prog wr = _ := fun ty => Lib.run_next_any_at wr w1.heap.size (ba' S) pos ty hit hsp
      have hde : Utf8.decode (ba' S) pos = (c.toNat, 1) := by rw [decode_ascii _ pos hsp (by rw [hc]; exact hcl), hc]
      rw [hde] at hnx
      obtain ⟨W, hWd⟩ : ∃ W, wr.iterAt w1.heap.size (ba' S) (pos + 1) = W := ⟨_, rfl⟩
      rw [hWd] at hnx
      have HCN := (HA.out c HC.out).2
      have hWb : Below w.heap.size w W := by rw [← hWd]; exact Lib.below_iterAt HBW.out HB1.out.size _ _
      have hWi : W.heap[w1.heap.size]? = some (.stringIter (ba' S) (pos + 1)) := by rw [← hWd]; exact Lib.iterAt_heap wr _ _ pos _ hit
      have hWz : w1.heap.size < W.heap.size := (Array.getElem?_eq_some_iff.1 hWi).1
      have HWB := Lib.hid hWb
      have HWI := Lib.hid hWi
      have HE : Hid (Utf8.encode (c.toNat : Int) = ba' [c]) := Lib.hid (enc_low c hcl)
      have hcat : Hid ((⟨#[95]⟩ : ByteArray) ++ ba' [c] = ba' [95, c]) := Lib.hid (by show ba' [95] ++ ba' [c] = _; rw [ba_app]; rfl)
      have hez : (Utf8.encode (c.toNat : Int)).size = 1 := by rw [HE.out, size_ba]; rfl
      have r1 : ¬ (9223372036854775807 < 1 + (Utf8.encode (c.toNat : Int)).size) := by omega
      have HNC := Lib.hid (HN.out c W HWB.out)
      rw [HCN] at HNC
      clear hWb hWi hWd hde hit hc HN HL
      go_wp2_with fail
      rw [HE.out, hcat.out]
      refine HNC.out.mono ?_
      rintro e w2 ⟨rfl, hb2⟩
      have HI2 : Hid (w2.heap[w1.heap.size]? = some (.stringIter (ba' S) (pos + 1))) := Lib.hid ((hb2.block _ hWz).trans HWI.out)
      have HB2 := Lib.hid (bt HWB.out hb2)
      clear hb2 hWz
      go_wp2
      go_roundg g'
      case measure => omega
      case rel => exact ⟨pos + 1, by omega, by omega, HI2.out, HB2⟩
    · obtain rfl : pos = P.length := by omega
      by_cases hend : P.length < S.length
      · have hsp : P.length < (ba' S).size := by omega
        obtain ⟨c, tt, hct, hcl, HCN⟩ : ∃ c t, S.drop P.length = c :: t ∧ c.toNat < 128 ∧ nameX [95, c] = false := by
          rcases HB.out with h | h
          · have := congrArg List.length h
            simp at this
            omega
          · exact h
        have hc : (ba' S)[P.length]'hsp = c := by
          have h1 : (S.drop P.length)[0]? = some c := by rw [hct]; rfl
          rw [List.getElem?_drop] at h1
          exact (List.getElem?_eq_some_iff.1 h1).2
        have hnx : ∀ ty, (Instr.next (.pointer (some ⟨w1.heap.size, 0, none⟩)) true ty).run Tryz.prog wr = _ := fun ty => Lib.run_next_any_at wr w1.heap.size (ba' S) P.length ty hit hsp
        have hde : Utf8.decode (ba' S) P.length = (c.toNat, 1) := by rw [decode_ascii _ _ hsp (by rw [hc]; exact hcl), hc]
        rw [hde] at hnx
        have HEX : Hid ((ba' S).extract 0 P.length = ba' P) := Lib.hid (by rw [cut_take, HTK.out])
        obtain ⟨W, hWd⟩ : ∃ W, wr.iterAt w1.heap.size (ba' S) (P.length + 1) = W := ⟨_, rfl⟩
        rw [hWd] at hnx
        have hWb : Below w.heap.size w W := by rw [← hWd]; exact Lib.below_iterAt HBW.out HB1.out.size _ _
        have hWi : W.heap[w1.heap.size]? = some (.stringIter (ba' S) (P.length + 1)) := by rw [← hWd]; exact Lib.iterAt_heap wr _ _ P.length _ hit
        have hWz : w1.heap.size < W.heap.size := (Array.getElem?_eq_some_iff.1 hWi).1
        have HWB := Lib.hid hWb
        have HWI := Lib.hid hWi
        have HE : Hid (Utf8.encode (c.toNat : Int) = ba' [c]) := Lib.hid (enc_low c hcl)
        have hcat : Hid ((⟨#[95]⟩ : ByteArray) ++ ba' [c] = ba' [95, c]) := Lib.hid (by show ba' [95] ++ ba' [c] = _; rw [ba_app]; rfl)
        have hez : (Utf8.encode (c.toNat : Int)).size = 1 := by rw [HE.out, size_ba]; rfl
        have r1 : ¬ (9223372036854775807 < 1 + (Utf8.encode (c.toNat : Int)).size) := by omega
        have HNC := Lib.hid (HN.out c W HWB.out)
        rw [HCN] at HNC
        clear hWb hWi hWd hde hit hc HN HL
        go_wp2_with fail
        rw [HE.out, hcat.out]
        refine HNC.out.mono ?_
        rintro e w2 ⟨rfl, hb2⟩
        have HB2 := Lib.hid (bt HWB.out hb2)
        clear hb2 hWz
        go_wp2
        rw [HEX.out]
        go_ret
        exact ⟨rfl, HB2.out⟩
      · have hSP : S = P := by rw [← HTK.out, List.take_of_length_le (by omega)]
        obtain rfl : S = P := hSP
        have hnx : ∀ ty, (Instr.next (.pointer (some ⟨w1.heap.size, 0, none⟩)) true ty).run Tryz.prog wr = _ := fun ty => Lib.run_next_end_at wr w1.heap.size (ba' S) S.length ty hit (by omega)
        clear hit
        go_wp2
        go_ret
        exact ⟨rfl, HBW.out⟩
end Go.Proofs.YtolkfhiominjbaaGreatDoor
namespace Go.Proofs.YtolkfhiominjbaaGreatDoor
open Go.RowKit Go.Lib
set_option maxRecDepth 100000
set_option maxHeartbeats 8000000
theorem variable_any (P S : List UInt8) (hne : P ≠ []) (hlP : P.length ≤ 70000) (_hlS : S.length ≤ 70000) (w : World)
    (HP : Hid (Calls Tryz.prog 66 #[.string (ba' S)] w fun e w' => e = .returned (.string (ba' P)) ∧ Below w.heap.size w w')) :
    Calls Tryz.prog 45 #[.string (ba' (36 :: S))] w fun e w' => e = .returned (.tuple #[.int .i64 2, .string (ba' P), .int .i64 (P.length + 1 : Nat)]) ∧ Below w.heap.size w w' := by
  have e2 : Hid ((ba' (36 :: S)).extract 1 (ba' (36 :: S)).size = ba' S) := Lib.hid (cut_drop (36 :: S) 1)
  have hsz := sz_cons 36 S
  have hz1 : ¬ ((ba' (36 :: S)).size < 1) := by omega
  have hem : P.isEmpty = false := by cases P with | nil => exact absurd rfl hne | cons => rfl
  have hem2 : (ba' P).toList = P := toList_ba P
  have s2 : (ba' P).size = P.length := size_ba P
  go_enter Tryz.func45, Tryz.ntmps45
  go_wp2_with fail
  rw [e2.out]
  refine HP.out.mono ?_
  rintro e w1 ⟨rfl, hb1⟩
  have HB1 := Lib.hid hb1
  clear hb1
  go_wp2
  go_ret3
  refine ⟨?_, HB1.out⟩
  rw [show ((P.length + 1 : Nat) : Int) = 1 + (P.length : Int) by omega]
  rfl
end Go.Proofs.YtolkfhiominjbaaGreatDoor
namespace Go.Proofs.YtolkfhiominjbaaGreatDoor
open Go.RowKit Go.Lib
set_option maxRecDepth 100000
set_option maxHeartbeats 8000000
def numRI (w0 : World) (k : Int) (n : Nat) (S T : ByteArray) (c1 c5 c6 c7 c8 c9 c10 c11 c12 c13 c14 c15 c16 c17 c18 c19 c20 c21 c22 : Value) (listed : Array Bool) (A : Act) (w : World) : Prop := ∃ (s3 s23 s24 s25 s26 s27 : Value), A = { tmps := #[.string S, c1, .int .i64 k, s3, .int .i64 n, c5, c6, c7, c8, c9, c10, c11, c12, c13, c14, c15, c16, c17, c18, c19, c20, c21, c22, s23, s24, s25, s26, s27], defers := [] } ∧
  (listed.getD 0 false = true → s23 = .int .i64 k) ∧
  (listed.getD 1 false = true → s24 = .string S) ∧
  (listed.getD 2 false = true → s25 = .int .i64 n) ∧
  (listed.getD 3 false = true → s26 = .string T) ∧
  (listed.getD 4 false = true → s27 = .int .i64 n) ∧
  (listed.getD 5 false = true → True) ∧
  (listed.getD 6 false = true → s3 = .string T) ∧
  (listed.getD 7 false = true → True) ∧
  Below w0.heap.size w0 w
set_option maxRecDepth 100000 in
set_option maxHeartbeats 16000000 in
theorem numR_region (k : Int) (n : Nat) (S T : ByteArray) (x3 x23 x24 x25 x26 x27 : Value) (c1 c5 c6 c7 c8 c9 c10 c11 c12 c13 c14 c15 c16 c17 c18 c19 c20 c21 c22 : Value) (w0 W : World) (Q : Exit → Act → World → Prop) (hb0 : Below w0.heap.size w0 W) (hn : n ≤ S.size) (hT : S.extract 0 n = T)
    (hQ : ∀ (w : World) , (True) → Below w0.heap.size w0 w → Q .normal { tmps := #[.string S, c1, .int .i64 k, .string T, .int .i64 n, c5, c6, c7, c8, c9, c10, c11, c12, c13, c14, c15, c16, c17, c18, c19, c20, c21, c22, .int .i64 k, .string S, .int .i64 n, .string T, .int .i64 n], defers := [] } w) :
    Code.wp Tryz.prog ((Tryz.f48.body.bind (regionOf 7)).getD .skip) Q { tmps := #[.string S, c1, .int .i64 k, x3, .int .i64 n, c5, c6, c7, c8, c9, c10, c11, c12, c13, c14, c15, c16, c17, c18, c19, c20, c21, c22, x23, x24, x25, x26, x27], defers := [] } W := by
  conv => arg 2; whnf
  refine wp_region_inv (by kernel_rfl) (by kernel_rfl) (numRI w0 k n S T c1 c5 c6 c7 c8 c9 c10 c11 c12 c13 c14 c15 c16 c17 c18 c19 c20 c21 c22) ?_ ?_ ?_
  · exact ⟨_, _, _, _, _, _, rfl, fun h => absurd h l0, fun h => absurd h l0, fun h => absurd h l0, fun h => absurd h l0, fun h => absurd h l0, fun h => absurd h l0, fun h => absurd h l0, fun h => absurd h l0, bdr hb0⟩
  · intro i o listed A w hi ho hd hn hI
    unfold numRI at hI
    obtain ⟨s3, hI⟩ := hI
    obtain ⟨s23, hI⟩ := hI
    obtain ⟨s24, hI⟩ := hI
    obtain ⟨s25, hI⟩ := hI
    obtain ⟨s26, hI⟩ := hI
    obtain ⟨s27, hI⟩ := hI
    obtain ⟨rfl, hI⟩ := hI
    obtain ⟨F0, hI⟩ := hI
    obtain ⟨F1, hI⟩ := hI
    obtain ⟨F2, hI⟩ := hI
    obtain ⟨F3, hI⟩ := hI
    obtain ⟨F4, hI⟩ := hI
    obtain ⟨F5, hI⟩ := hI
    obtain ⟨F6, hI⟩ := hI
    obtain ⟨F7, hI⟩ := hI
    have F8 := hI; clear hI
    have hi' : i < 8 := hi
    clear hi
    rcases (by omega : i = 0 ∨ i = 1 ∨ i = 2 ∨ i = 3 ∨ i = 4 ∨ i = 5 ∨ i = 6 ∨ i = 7) with rfl | rfl | rfl | rfl | rfl | rfl | rfl | rfl
    · simp only [List.getElem?_toArray, List.getElem?_cons_zero, Option.some.injEq] at ho
      subst ho
      refine wpOp_step rfl (fun K hK => ?_)
      go_simp
      refine hK _ _ ?_
      exact ⟨_, _, _, _, _, _, rfl, fun _ => rfl, fun h => F1 (ls (by decide) h), fun h => F2 (ls (by decide) h), fun h => F3 (ls (by decide) h), fun h => F4 (ls (by decide) h), fun h => F5 (ls (by decide) h), fun h => F6 (ls (by decide) h), fun h => F7 (ls (by decide) h), F8⟩
    · simp only [List.getElem?_toArray, List.getElem?_cons_zero, List.getElem?_cons_succ, Option.some.injEq] at ho
      subst ho
      refine wpOp_step rfl (fun K hK => ?_)
      go_simp
      refine hK _ _ ?_
      exact ⟨_, _, _, _, _, _, rfl, fun h => F0 (ls (by decide) h), fun _ => rfl, fun h => F2 (ls (by decide) h), fun h => F3 (ls (by decide) h), fun h => F4 (ls (by decide) h), fun h => F5 (ls (by decide) h), fun h => F6 (ls (by decide) h), fun h => F7 (ls (by decide) h), F8⟩
    · simp only [List.getElem?_toArray, List.getElem?_cons_zero, List.getElem?_cons_succ, Option.some.injEq] at ho
      subst ho
      refine wpOp_step rfl (fun K hK => ?_)
      go_simp
      refine hK _ _ ?_
      exact ⟨_, _, _, _, _, _, rfl, fun h => F0 (ls (by decide) h), fun h => F1 (ls (by decide) h), fun _ => rfl, fun h => F3 (ls (by decide) h), fun h => F4 (ls (by decide) h), fun h => F5 (ls (by decide) h), fun h => F6 (ls (by decide) h), fun h => F7 (ls (by decide) h), F8⟩
    · simp only [List.getElem?_toArray, List.getElem?_cons_zero, List.getElem?_cons_succ, Option.some.injEq] at ho
      subst ho
      obtain rfl := F1 (hd ⟨1, .data⟩ (by simp) rfl)
      obtain rfl := F2 (hd ⟨2, .data⟩ (by simp) rfl)
      refine wpOp_step rfl (fun K hK => ?_)
      go_simp
      refine hK _ _ ?_
      exact ⟨_, _, _, _, _, _, rfl, fun h => F0 (ls (by decide) h), fun h => F1 (ls (by decide) h), fun h => F2 (ls (by decide) h), fun _ => rfl, fun h => F4 (ls (by decide) h), fun h => F5 (ls (by decide) h), fun h => F6 (ls (by decide) h), fun h => F7 (ls (by decide) h), F8⟩
    · simp only [List.getElem?_toArray, List.getElem?_cons_zero, List.getElem?_cons_succ, Option.some.injEq] at ho
      subst ho
      refine wpOp_step rfl (fun K hK => ?_)
      go_simp
      refine hK _ _ ?_
      exact ⟨_, _, _, _, _, _, rfl, fun h => F0 (ls (by decide) h), fun h => F1 (ls (by decide) h), fun h => F2 (ls (by decide) h), fun h => F3 (ls (by decide) h), fun _ => rfl, fun h => F5 (ls (by decide) h), fun h => F6 (ls (by decide) h), fun h => F7 (ls (by decide) h), F8⟩
    · simp only [List.getElem?_toArray, List.getElem?_cons_zero, List.getElem?_cons_succ, Option.some.injEq] at ho
      subst ho
      obtain rfl := F0 (hd ⟨0, .data⟩ (by simp) rfl)
      refine wpOp_step rfl (fun K hK => ?_)
      go_simp
      refine hK _ _ ?_
      exact ⟨_, _, _, _, _, _, rfl, fun h => F0 (ls (by decide) h), fun h => F1 (ls (by decide) h), fun h => F2 (ls (by decide) h), fun h => F3 (ls (by decide) h), fun h => F4 (ls (by decide) h), fun _ => trivial, fun h => F6 (ls (by decide) h), fun h => F7 (ls (by decide) h), F8⟩
    · simp only [List.getElem?_toArray, List.getElem?_cons_zero, List.getElem?_cons_succ, Option.some.injEq] at ho
      subst ho
      obtain rfl := F3 (hd ⟨3, .data⟩ (by simp) rfl)
      refine wpOp_step rfl (fun K hK => ?_)
      go_simp
      refine hK _ _ ?_
      exact ⟨_, _, _, _, _, _, rfl, fun h => F0 (ls (by decide) h), fun h => F1 (ls (by decide) h), fun h => F2 (ls (by decide) h), fun h => F3 (ls (by decide) h), fun h => F4 (ls (by decide) h), fun h => F5 (ls (by decide) h), fun _ => rfl, fun h => F7 (ls (by decide) h), F8⟩
    · simp only [List.getElem?_toArray, List.getElem?_cons_zero, List.getElem?_cons_succ, Option.some.injEq] at ho
      subst ho
      obtain rfl := F4 (hd ⟨4, .data⟩ (by simp) rfl)
      refine wpOp_step rfl (fun K hK => ?_)
      go_simp
      refine hK _ _ ?_
      exact ⟨_, _, _, _, _, _, rfl, fun h => F0 (ls (by decide) h), fun h => F1 (ls (by decide) h), fun h => F2 (ls (by decide) h), fun h => F3 (ls (by decide) h), fun h => F4 (ls (by decide) h), fun h => F5 (ls (by decide) h), fun h => F6 (ls (by decide) h), fun _ => trivial, F8⟩
  · intro listed A w hall hI
    unfold numRI at hI
    obtain ⟨s3, hI⟩ := hI
    obtain ⟨s23, hI⟩ := hI
    obtain ⟨s24, hI⟩ := hI
    obtain ⟨s25, hI⟩ := hI
    obtain ⟨s26, hI⟩ := hI
    obtain ⟨s27, hI⟩ := hI
    obtain ⟨rfl, hI⟩ := hI
    obtain ⟨F0, hI⟩ := hI
    obtain ⟨F1, hI⟩ := hI
    obtain ⟨F2, hI⟩ := hI
    obtain ⟨F3, hI⟩ := hI
    obtain ⟨F4, hI⟩ := hI
    obtain ⟨F5, hI⟩ := hI
    obtain ⟨F6, hI⟩ := hI
    obtain ⟨F7, hI⟩ := hI
    have F8 := hI; clear hI
    obtain rfl := F0 (hall 0 (by decide))
    obtain rfl := F1 (hall 1 (by decide))
    obtain rfl := F2 (hall 2 (by decide))
    obtain rfl := F3 (hall 3 (by decide))
    obtain rfl := F4 (hall 4 (by decide))
    obtain rfl := F6 (hall 6 (by decide))
    have P5 := F5 (hall 5 (by decide))
    have P7 := F7 (hall 7 (by decide))
    have HB := F8
    exact hQ _ trivial HB
def tokRI (w0 : World) (_k : Int) (n : Nat) (S T : ByteArray) (c1 c6 c7 c8 c9 c10 c11 c12 c13 c14 c15 c16 c17 c18 c19 c20 c21 c22 c23 c24 c25 c26 c27 c28 c29 c30 c31 c32 c33 c34 c35 c36 c37 c38 c39 c40 c41 c42 c43 c44 c45 c46 c47 c48 c49 c50 c51 c52 c53 c54 c59 c60 c61 c62 c63 : Value) (listed : Array Bool) (A : Act) (w : World) : Prop := ∃ (s2 s3 s4 s55 s56 s57 s58 : Value), A = { tmps := #[.string S, c1, s2, s3, s4, .int .i64 n, c6, c7, c8, c9, c10, c11, c12, c13, c14, c15, c16, c17, c18, c19, c20, c21, c22, c23, c24, c25, c26, c27, c28, c29, c30, c31, c32, c33, c34, c35, c36, c37, c38, c39, c40, c41, c42, c43, c44, c45, c46, c47, c48, c49, c50, c51, c52, c53, c54, s55, s56, s57, s58, c59, c60, c61, c62, c63], defers := [] } ∧
  (listed.getD 0 false = true → s55 = .string S) ∧
  (listed.getD 1 false = true → s56 = .int .i64 n) ∧
  (listed.getD 2 false = true → s57 = .string T) ∧
  (listed.getD 3 false = true → s58 = .int .i64 n) ∧
  (listed.getD 4 false = true → s2 = .int .i64 6) ∧
  (listed.getD 5 false = true → s3 = .string T) ∧
  (listed.getD 6 false = true → s4 = .int .i64 n) ∧
  Below w0.heap.size w0 w
set_option maxRecDepth 100000 in
set_option maxHeartbeats 16000000 in
theorem tokR_region (k : Int) (n : Nat) (S T : ByteArray) (x2 x3 x4 x55 x56 x57 x58 : Value) (c1 c6 c7 c8 c9 c10 c11 c12 c13 c14 c15 c16 c17 c18 c19 c20 c21 c22 c23 c24 c25 c26 c27 c28 c29 c30 c31 c32 c33 c34 c35 c36 c37 c38 c39 c40 c41 c42 c43 c44 c45 c46 c47 c48 c49 c50 c51 c52 c53 c54 c59 c60 c61 c62 c63 : Value) (w0 W : World) (Q : Exit → Act → World → Prop) (hb0 : Below w0.heap.size w0 W) (hn : n ≤ S.size) (hT : S.extract 0 n = T)
    (hQ : ∀ (w : World) , (True) → Below w0.heap.size w0 w → Q .normal { tmps := #[.string S, c1, .int .i64 6, .string T, .int .i64 n, .int .i64 n, c6, c7, c8, c9, c10, c11, c12, c13, c14, c15, c16, c17, c18, c19, c20, c21, c22, c23, c24, c25, c26, c27, c28, c29, c30, c31, c32, c33, c34, c35, c36, c37, c38, c39, c40, c41, c42, c43, c44, c45, c46, c47, c48, c49, c50, c51, c52, c53, c54, .string S, .int .i64 n, .string T, .int .i64 n, c59, c60, c61, c62, c63], defers := [] } w) :
    Code.wp Tryz.prog ((Tryz.f24.body.bind (regionOf 9)).getD .skip) Q { tmps := #[.string S, c1, x2, x3, x4, .int .i64 n, c6, c7, c8, c9, c10, c11, c12, c13, c14, c15, c16, c17, c18, c19, c20, c21, c22, c23, c24, c25, c26, c27, c28, c29, c30, c31, c32, c33, c34, c35, c36, c37, c38, c39, c40, c41, c42, c43, c44, c45, c46, c47, c48, c49, c50, c51, c52, c53, c54, x55, x56, x57, x58, c59, c60, c61, c62, c63], defers := [] } W := by
  conv => arg 2; whnf
  refine wp_region_inv (by kernel_rfl) (by kernel_rfl) (tokRI w0 k n S T c1 c6 c7 c8 c9 c10 c11 c12 c13 c14 c15 c16 c17 c18 c19 c20 c21 c22 c23 c24 c25 c26 c27 c28 c29 c30 c31 c32 c33 c34 c35 c36 c37 c38 c39 c40 c41 c42 c43 c44 c45 c46 c47 c48 c49 c50 c51 c52 c53 c54 c59 c60 c61 c62 c63) ?_ ?_ ?_
  · exact ⟨_, _, _, _, _, _, _, rfl, fun h => absurd h l0, fun h => absurd h l0, fun h => absurd h l0, fun h => absurd h l0, fun h => absurd h l0, fun h => absurd h l0, fun h => absurd h l0, bdr hb0⟩
  · intro i o listed A w hi ho hd hn hI
    unfold tokRI at hI
    obtain ⟨s2, hI⟩ := hI
    obtain ⟨s3, hI⟩ := hI
    obtain ⟨s4, hI⟩ := hI
    obtain ⟨s55, hI⟩ := hI
    obtain ⟨s56, hI⟩ := hI
    obtain ⟨s57, hI⟩ := hI
    obtain ⟨s58, hI⟩ := hI
    obtain ⟨rfl, hI⟩ := hI
    obtain ⟨F0, hI⟩ := hI
    obtain ⟨F1, hI⟩ := hI
    obtain ⟨F2, hI⟩ := hI
    obtain ⟨F3, hI⟩ := hI
    obtain ⟨F4, hI⟩ := hI
    obtain ⟨F5, hI⟩ := hI
    obtain ⟨F6, hI⟩ := hI
    have F7 := hI; clear hI
    have hi' : i < 7 := hi
    clear hi
    rcases (by omega : i = 0 ∨ i = 1 ∨ i = 2 ∨ i = 3 ∨ i = 4 ∨ i = 5 ∨ i = 6) with rfl | rfl | rfl | rfl | rfl | rfl | rfl
    · simp only [List.getElem?_toArray, List.getElem?_cons_zero, Option.some.injEq] at ho
      subst ho
      refine wpOp_step rfl (fun K hK => ?_)
      go_simp
      refine hK _ _ ?_
      exact ⟨_, _, _, _, _, _, _, rfl, fun _ => rfl, fun h => F1 (ls (by decide) h), fun h => F2 (ls (by decide) h), fun h => F3 (ls (by decide) h), fun h => F4 (ls (by decide) h), fun h => F5 (ls (by decide) h), fun h => F6 (ls (by decide) h), F7⟩
    · simp only [List.getElem?_toArray, List.getElem?_cons_zero, List.getElem?_cons_succ, Option.some.injEq] at ho
      subst ho
      refine wpOp_step rfl (fun K hK => ?_)
      go_simp
      refine hK _ _ ?_
      exact ⟨_, _, _, _, _, _, _, rfl, fun h => F0 (ls (by decide) h), fun _ => rfl, fun h => F2 (ls (by decide) h), fun h => F3 (ls (by decide) h), fun h => F4 (ls (by decide) h), fun h => F5 (ls (by decide) h), fun h => F6 (ls (by decide) h), F7⟩
    · simp only [List.getElem?_toArray, List.getElem?_cons_zero, List.getElem?_cons_succ, Option.some.injEq] at ho
      subst ho
      obtain rfl := F0 (hd ⟨0, .data⟩ (by simp) rfl)
      obtain rfl := F1 (hd ⟨1, .data⟩ (by simp) rfl)
      refine wpOp_step rfl (fun K hK => ?_)
      go_simp
      refine hK _ _ ?_
      exact ⟨_, _, _, _, _, _, _, rfl, fun h => F0 (ls (by decide) h), fun h => F1 (ls (by decide) h), fun _ => rfl, fun h => F3 (ls (by decide) h), fun h => F4 (ls (by decide) h), fun h => F5 (ls (by decide) h), fun h => F6 (ls (by decide) h), F7⟩
    · simp only [List.getElem?_toArray, List.getElem?_cons_zero, List.getElem?_cons_succ, Option.some.injEq] at ho
      subst ho
      refine wpOp_step rfl (fun K hK => ?_)
      go_simp
      refine hK _ _ ?_
      exact ⟨_, _, _, _, _, _, _, rfl, fun h => F0 (ls (by decide) h), fun h => F1 (ls (by decide) h), fun h => F2 (ls (by decide) h), fun _ => rfl, fun h => F4 (ls (by decide) h), fun h => F5 (ls (by decide) h), fun h => F6 (ls (by decide) h), F7⟩
    · simp only [List.getElem?_toArray, List.getElem?_cons_zero, List.getElem?_cons_succ, Option.some.injEq] at ho
      subst ho
      refine wpOp_step rfl (fun K hK => ?_)
      go_simp
      refine hK _ _ ?_
      exact ⟨_, _, _, _, _, _, _, rfl, fun h => F0 (ls (by decide) h), fun h => F1 (ls (by decide) h), fun h => F2 (ls (by decide) h), fun h => F3 (ls (by decide) h), fun _ => rfl, fun h => F5 (ls (by decide) h), fun h => F6 (ls (by decide) h), F7⟩
    · simp only [List.getElem?_toArray, List.getElem?_cons_zero, List.getElem?_cons_succ, Option.some.injEq] at ho
      subst ho
      obtain rfl := F2 (hd ⟨2, .data⟩ (by simp) rfl)
      refine wpOp_step rfl (fun K hK => ?_)
      go_simp
      refine hK _ _ ?_
      exact ⟨_, _, _, _, _, _, _, rfl, fun h => F0 (ls (by decide) h), fun h => F1 (ls (by decide) h), fun h => F2 (ls (by decide) h), fun h => F3 (ls (by decide) h), fun h => F4 (ls (by decide) h), fun _ => rfl, fun h => F6 (ls (by decide) h), F7⟩
    · simp only [List.getElem?_toArray, List.getElem?_cons_zero, List.getElem?_cons_succ, Option.some.injEq] at ho
      subst ho
      obtain rfl := F3 (hd ⟨3, .data⟩ (by simp) rfl)
      refine wpOp_step rfl (fun K hK => ?_)
      go_simp
      refine hK _ _ ?_
      exact ⟨_, _, _, _, _, _, _, rfl, fun h => F0 (ls (by decide) h), fun h => F1 (ls (by decide) h), fun h => F2 (ls (by decide) h), fun h => F3 (ls (by decide) h), fun h => F4 (ls (by decide) h), fun h => F5 (ls (by decide) h), fun _ => rfl, F7⟩
  · intro listed A w hall hI
    unfold tokRI at hI
    obtain ⟨s2, hI⟩ := hI
    obtain ⟨s3, hI⟩ := hI
    obtain ⟨s4, hI⟩ := hI
    obtain ⟨s55, hI⟩ := hI
    obtain ⟨s56, hI⟩ := hI
    obtain ⟨s57, hI⟩ := hI
    obtain ⟨s58, hI⟩ := hI
    obtain ⟨rfl, hI⟩ := hI
    obtain ⟨F0, hI⟩ := hI
    obtain ⟨F1, hI⟩ := hI
    obtain ⟨F2, hI⟩ := hI
    obtain ⟨F3, hI⟩ := hI
    obtain ⟨F4, hI⟩ := hI
    obtain ⟨F5, hI⟩ := hI
    obtain ⟨F6, hI⟩ := hI
    have F7 := hI; clear hI
    obtain rfl := F0 (hall 0 (by decide))
    obtain rfl := F1 (hall 1 (by decide))
    obtain rfl := F2 (hall 2 (by decide))
    obtain rfl := F3 (hall 3 (by decide))
    obtain rfl := F4 (hall 4 (by decide))
    obtain rfl := F5 (hall 5 (by decide))
    obtain rfl := F6 (hall 6 (by decide))
    have HB := F7
    exact hQ _ trivial HB
end Go.Proofs.YtolkfhiominjbaaGreatDoor
namespace Go.Proofs.YtolkfhiominjbaaGreatDoor
open Go.RowKit Go.Lib
set_option maxRecDepth 100000
set_option maxHeartbeats 8000000
/-- "1.5 (: r :) a-b" -/
def txC : List UInt8 := [49, 46, 53, 32, 40, 58, 32, 114, 32, 58, 41, 32, 97, 45, 98]
theorem number_dec (w : World) (hT : tabs w) :
    Calls Tryz.prog 48 #[.string (ba' txC)] w fun e w' => e = .returned (.tuple #[.int .i64 4, .string (ba' [49, 46, 53]), .int .i64 3]) ∧ Below w.heap.size w w' := by
  have HD1 : Hid (∀ W : World, Calls Tryz.prog 47 #[.string (ba' txC)] W fun e w' => e = .returned (.int .i64 1) ∧ Below W.heap.size W w') :=
    Lib.hid fun W => digits_any txC (txC.drop 1) (by decide +kernel) (by decide) (by decide) W
  have HD2 : Hid (∀ W : World, Calls Tryz.prog 47 #[.string (ba' (txC.drop 2))] W fun e w' => e = .returned (.int .i64 1) ∧ Below W.heap.size W w') :=
    Lib.hid fun W => digits_any (txC.drop 2) (txC.drop 3) (by decide +kernel) (by decide) (by decide) W
  have HL : Hid (∀ W : World, Below w.heap.size w W → Calls Tryz.prog 67 #[.string (ba' (txC.drop 3))] W fun e w' => e = .returned (.bool false) ∧ Below W.heap.size W w') :=
    Lib.hid fun W hW => begins_any 32 (txC.drop 4) (by decide) W (Utf8Tabs_below hT hW)
  have HX1 : Hid ((ba' txC).extract 1 15 = ba' (txC.drop 1)) := Lib.hid (cut_drop txC 1)
  have HX2 : Hid ((ba' txC).extract 2 15 = ba' (txC.drop 2)) := Lib.hid (cut_drop txC 2)
  have HX3 : Hid ((ba' txC).extract 3 15 = ba' (txC.drop 3)) := Lib.hid (cut_drop txC 3)
  have HX4 : (ba' txC).extract 0 3 = ba' [49, 46, 53] := by rw [cut_take]; rfl
  have hp : Lib.hasPrefix (ba' (txC.drop 1)).data.toList (⟨#[46]⟩ : ByteArray).data.toList = true := rfl
  have s1 : (ba' txC).size = 15 := size_ba txC
  clear hT
  go_enter Tryz.func48, Tryz.ntmps48
  go_wp2_with fail
  refine (HD1.out w).mono ?_
  rintro e w1 ⟨rfl, hb1⟩
  have HB1 := Lib.hid hb1
  clear hb1
  go_wp2_with fail
  rw [HX1.out]
  refine (Tryz.strings_HasPrefix (ba' (txC.drop 1)) ⟨#[46]⟩ w1).mono ?_
  rintro e w2 ⟨rfl, rfl⟩
  rw [hp]
  go_wp2_with fail
  rw [HX2.out]
  refine (HD2.out w2).mono ?_
  rintro e w3 ⟨rfl, hb3⟩
  have HB3 := Lib.hid (bt HB1.out hb3)
  clear hb3
  go_wp2_with fail
  rw [HX3.out]
  refine (HL.out w3 HB3.out).mono ?_
  rintro e w4 ⟨rfl, hb4⟩
  have HB4 := Lib.hid (bt HB3.out hb4)
  clear hb4
  go_upto_region 7 with fail
  go_cut [2, 3, 4] (fun s2 s3 s4 wx => s2 = .int .i64 4 ∧ s3 = .string (ba' [49, 46, 53]) ∧ s4 = .int .i64 3 ∧ Below w.heap.size w wx)
  case first =>
    rename_i J K' hJ hK'
    refine numR_region 4 3 (ba' txC) (ba' [49, 46, 53]) _ _ _ _ _ _ _ _ _ _ _ _ _ _ _ _ _ _ _ _ _ _ _ _ _ w w4 _ HB4.out (by rw [s1]; decide) HX4 ?_
    intro w' _ hb
    refine hK' _ _ (Met.intro (hJ _ _ ?_))
    (repeat apply Exists.intro)
    refine ⟨?_, rfl⟩
    exact ⟨rfl, rfl, rfl, hb⟩
  case rest =>
    obtain ⟨rfl, rfl, rfl, hbc⟩ := hcut
    go_wp2
    go_ret3
    exact ⟨rfl, hbc⟩
theorem number_bad (w : World) (hT : tabs w) :
    Calls Tryz.prog 48 #[.string (ba' [49, 97])] w fun e w' => e = .returned (.tuple #[.int .i64 0, .string (ba' []), .int .i64 0]) ∧ Below w.heap.size w w' := by
  have HD1 : Hid (∀ W : World, Calls Tryz.prog 47 #[.string (ba' [49, 97])] W fun e w' => e = .returned (.int .i64 1) ∧ Below W.heap.size W w') :=
    Lib.hid fun W => digits_any [49, 97] [97] (by decide +kernel) (by decide) (by decide) W
  have HL : Hid (∀ W : World, Below w.heap.size w W → Calls Tryz.prog 67 #[.string (ba' [97])] W fun e w' => e = .returned (.bool true) ∧ Below W.heap.size W w') :=
    Lib.hid fun W hW => begins_any 97 [] (by decide) W (Utf8Tabs_below hT hW)
  have HX1 : Hid ((ba' [49, 97]).extract 1 2 = ba' [97]) := Lib.hid (cut_drop [49, 97] 1)
  have hp : Lib.hasPrefix (ba' [97]).data.toList (⟨#[46]⟩ : ByteArray).data.toList = false := rfl
  have s1 : (ba' [49, 97]).size = 2 := size_ba _
  clear hT
  go_enter Tryz.func48, Tryz.ntmps48
  go_wp2_with fail
  refine (HD1.out w).mono ?_
  rintro e w1 ⟨rfl, hb1⟩
  have HB1 := Lib.hid hb1
  clear hb1
  go_wp2_with fail
  rw [HX1.out]
  refine (Tryz.strings_HasPrefix (ba' [97]) ⟨#[46]⟩ w1).mono ?_
  rintro e w2 ⟨rfl, rfl⟩
  rw [hp]
  go_wp2_with fail
  rw [HX1.out]
  refine (HL.out w2 HB1.out).mono ?_
  rintro e w4 ⟨rfl, hb4⟩
  have HB4 := Lib.hid (bt HB1.out hb4)
  clear hb4
  go_wp2
  go_ret3
  exact ⟨rfl, HB4.out⟩
end Go.Proofs.YtolkfhiominjbaaGreatDoor
namespace Go.Proofs.YtolkfhiominjbaaGreatDoor
open Go.RowKit Go.Lib
set_option maxRecDepth 100000
set_option maxHeartbeats 8000000
theorem tok_num (X : List UInt8) (k n : Int) (text : List UInt8) (w : World)
    (HD : Hid (∀ W : World, Calls Tryz.prog 47 #[.string (ba' (49 :: X))] W fun e w' => e = .returned (.int .i64 1) ∧ Below W.heap.size W w'))
    (HN : Hid (∀ W : World, Below w.heap.size w W → Calls Tryz.prog 48 #[.string (ba' (49 :: X))] W fun e w' => e = .returned (.tuple #[.int .i64 k, .string (ba' text), .int .i64 n]) ∧ Below W.heap.size W w')) :
    Calls Tryz.prog 24 #[.string (ba' (49 :: X))] w fun e w' => e = .returned (.tuple #[.int .i64 k, .string (ba' text), .int .i64 n]) ∧ Below w.heap.size w w' := by
  have hsz := sz_cons 49 X
  have g36 : ((((ba' (49 :: X))[0]'hsz).toNat : Int) == 36) = false := rfl
  have g34 : ((((ba' (49 :: X))[0]'hsz).toNat : Int) == 34) = false := rfl
  have g39 : ((((ba' (49 :: X))[0]'hsz).toNat : Int) == 39) = false := rfl
  go_enter Tryz.func24, Tryz.ntmps24
  go_wp2_with fail
  refine (HD.out w).mono ?_
  rintro e w1 ⟨rfl, hb1⟩
  have HB1 := Lib.hid hb1
  clear hb1
  go_wp2_with fail
  refine (HN.out w1 HB1.out).mono ?_
  rintro e w2 ⟨rfl, hb2⟩
  have HB2 := Lib.hid (bt HB1.out hb2)
  clear hb2
  go_wp2
  go_ret3
  exact ⟨rfl, HB2.out⟩
theorem tok_var (X P : List UInt8) (w : World)
    (HV : Hid (Calls Tryz.prog 45 #[.string (ba' (36 :: X))] w fun e w' => e = .returned (.tuple #[.int .i64 2, .string (ba' P), .int .i64 (P.length + 1 : Nat)]) ∧ Below w.heap.size w w')) :
    Calls Tryz.prog 24 #[.string (ba' (36 :: X))] w fun e w' => e = .returned (.tuple #[.int .i64 2, .string (ba' P), .int .i64 (P.length + 1 : Nat)]) ∧ Below w.heap.size w w' := by
  have hsz := sz_cons 36 X
  have g36 : ((((ba' (36 :: X))[0]'hsz).toNat : Int) == 36) = true := rfl
  go_enter Tryz.func24, Tryz.ntmps24
  go_wp2_with fail
  refine HV.out.mono ?_
  rintro e w1 ⟨rfl, hb1⟩
  have HB1 := Lib.hid hb1
  clear hb1
  go_wp2
  go_ret3
  exact ⟨rfl, HB1.out⟩
theorem tok_plus (X : List UInt8) (d : UInt8) (hX : X.length ≤ 60000) (w : World) :
    Calls Tryz.prog 24 #[.string (ba' (43 :: d :: X))] w fun e w' => e = .returned (.tuple #[.int .i64 6, .string (ba' [43]), .int .i64 1]) ∧ Below w.heap.size w w' := by
  have hsz := sz_cons 43 (d :: X)
  have g36 : ((((ba' (43 :: d :: X))[0]'hsz).toNat : Int) == 36) = false := rfl
  have g34 : ((((ba' (43 :: d :: X))[0]'hsz).toNat : Int) == 34) = false := rfl
  have g39 : ((((ba' (43 :: d :: X))[0]'hsz).toNat : Int) == 39) = false := rfl
  have g46 : ((((ba' (43 :: d :: X))[0]'hsz).toNat : Int) == 46) = false := rfl
  have HD : Hid (Calls Tryz.prog 47 #[.string (ba' (43 :: d :: X))] w fun e w' => e = .returned (.int .i64 0) ∧ Below w.heap.size w w') := Lib.hid (by
    have h := digits_any (43 :: d :: X) (43 :: d :: X) rfl (by simp; omega) (by simp; omega) w
    rw [Int.sub_self] at h
    exact h)
  have HS : Hid (∀ W : World, Calls Tryz.prog 49 #[.string (ba' (43 :: d :: X))] W fun e w' => e = .returned (.string (ba' [43])) ∧ Below W.heap.size W w') :=
    Lib.hid fun W => sign_one 43 d X rfl (by omega) W
  have HX : (ba' (43 :: d :: X)).extract 0 1 = ba' [43] := by rw [cut_take]; rfl
  have s1 : (ba' [43]).size = 1 := rfl
  go_enter Tryz.func24, Tryz.ntmps24
  go_wp2_with fail
  refine HD.out.mono ?_
  rintro e w1 ⟨rfl, hb1⟩
  have HB1 := Lib.hid hb1
  clear hb1
  go_wp2_with fail
  refine (HS.out w1).mono ?_
  rintro e w2 ⟨rfl, hb2⟩
  have HB2 := Lib.hid (bt HB1.out hb2)
  clear hb2
  go_upto_region 9 with fail
  go_cut [2, 3, 4] (fun s2 s3 s4 wx => s2 = .int .i64 6 ∧ s3 = .string (ba' [43]) ∧ s4 = .int .i64 1 ∧ Below w.heap.size w wx)
  case first =>
    rename_i J K' hJ hK'
    refine tokR_region 0 1 (ba' (43 :: d :: X)) (ba' [43]) _ _ _ _ _ _ _ _ _ _ _ _ _ _ _ _ _ _ _ _ _ _ _ _ _ _ _ _ _ _ _ _ _ _ _ _ _ _ _ _ _ _ _ _ _ _ _ _ _ _ _ _ _ _ _ _ _ _ _ _ _ _ w w2 _ HB2.out (by omega) HX ?_
    intro w' _ hb
    refine hK' _ _ (Met.intro (hJ _ _ ?_))
    (repeat apply Exists.intro)
    refine ⟨?_, rfl⟩
    exact ⟨rfl, rfl, rfl, hb⟩
  case rest =>
    obtain ⟨rfl, rfl, rfl, hbc⟩ := hcut
    go_wp2
    go_ret3
    exact ⟨rfl, hbc⟩
/-- "a-b" -/
def txN : List UInt8 := [97, 45, 98]
theorem sign_none (w : World) : Calls Tryz.prog 49 #[.string (ba' txN)] w fun e w' => e = .returned (.string (ba' [])) ∧ Below w.heap.size w w' := by
  have HI := Lib.hid (Tryz.strings_IndexByte ⟨#[40, 41, 91, 93, 123, 125, 44, 59, 46, 47, 64, 42, 43, 45, 61, 60, 62, 124, 63]⟩ 97 w)
  have e1 : Lib.indexByte [40, 41, 91, 93, 123, 125, 44, 59, 46, 47, 64, 42, 43, 45, 61, 60, 62, 124, 63] (97 : Int).toNat.toUInt8 = -1 := by kernel_rfl
  have s1 : (ba' txN).size = 3 := size_ba _
  have hsz : 0 < (ba' txN).size := by rw [s1]; decide
  have g0 : (((ba' txN)[0]'hsz).toNat : Int) = 97 := rfl
  have gx : ((ba' txN).extract 0 2).toList = [97, 45] := by
    rw [ByteArray.toList_eq, extract_list]
    rfl
  go_enter Tryz.func49, Tryz.ntmps49
  go_wp2_with fail
  refine HI.out.mono ?_
  rintro e w1 ⟨rfl, rfl⟩
  rw [show Lib.indexByte (⟨#[40, 41, 91, 93, 123, 125, 44, 59, 46, 47, 64, 42, 43, 45, 61, 60, 62, 124, 63]⟩ : ByteArray).data.toList (97 : Int).toNat.toUInt8 = -1 from e1]
  go_wp2
  go_ret
  exact ⟨rfl, Below.refl _ _⟩
theorem plain_ab (w : World) (hT : tabs w) : Calls Tryz.prog 66 #[.string (ba' txN)] w fun e w' => e = .returned (.string (ba' txN)) ∧ Below w.heap.size w w' := by
  refine plain_on txN txN (Lib.hid (by unfold txN; intro c hc; rcases List.mem_cons.1 hc with rfl | hc; exact ⟨by decide, by kernel_rfl⟩; rcases List.mem_cons.1 hc with rfl | hc; exact ⟨by decide, by kernel_rfl⟩; rcases List.mem_cons.1 hc with rfl | hc; exact ⟨by decide, by kernel_rfl⟩; cases hc)) (Lib.hid (.inl rfl)) (Lib.hid rfl) (by decide) (by decide) w ?_ ?_
  · exact Lib.hid (begins_any 97 [45, 98] (by decide) w hT)
  · exact Lib.hid fun c w1 hb => name_any (ba' [95, c]) w1 (by rw [size_ba]; show 2 ≤ maxLen; decide) (Utf8Tabs_below hT hb)
theorem plain_x (w : World) (hT : tabs w) : Calls Tryz.prog 66 #[.string (ba' (120 :: 43 :: txC))] w fun e w' => e = .returned (.string (ba' [120])) ∧ Below w.heap.size w w' := by
  refine plain_on [120] (120 :: 43 :: txC) (Lib.hid (by intro c hc; rcases List.mem_cons.1 hc with rfl | hc; exact ⟨by decide, by kernel_rfl⟩; cases hc)) (Lib.hid (.inr ⟨43, txC, rfl, by decide, by kernel_rfl⟩)) (Lib.hid rfl) (by decide) (by decide) w ?_ ?_
  · exact Lib.hid (begins_any 120 (43 :: txC) (by decide) w hT)
  · exact Lib.hid fun c w1 hb => name_any (ba' [95, c]) w1 (by rw [size_ba]; show 2 ≤ maxLen; decide) (Utf8Tabs_below hT hb)
theorem qual_ab (w : World) (hT : tabs w) : Calls Tryz.prog 50 #[.string (ba' txN)] w fun e w' => e = .returned (.string (ba' txN)) ∧ Below w.heap.size w w' := by
  have HP := Lib.hid (plain_ab w hT)
  have s1 : (ba' txN).size = 3 := size_ba _
  have hem : (ba' txN).toList = txN := toList_ba _
  have hne : txN.isEmpty = false := rfl
  have e1 : Lib.hasPrefix ByteArray.empty.data.toList (⟨#[58]⟩ : ByteArray).data.toList = false := rfl
  clear hT
  go_enter Tryz.func50, Tryz.ntmps50
  go_wp2_with fail
  refine HP.out.mono ?_
  rintro e w1 ⟨rfl, hb1⟩
  have HB1 := Lib.hid hb1
  clear hb1
  go_wp2_with fail
  refine (Tryz.strings_CutPrefix ByteArray.empty ⟨#[58]⟩ w1).mono ?_
  rintro e w2 ⟨rfl, rfl⟩
  rw [e1]
  go_wp2
  go_ret
  exact ⟨rfl, HB1.out⟩
theorem tok_name (w : World) (hT : tabs w) : Calls Tryz.prog 24 #[.string (ba' txN)] w fun e w' => e = .returned (.tuple #[.int .i64 1, .string (ba' txN), .int .i64 3]) ∧ Below w.heap.size w w' := by
  have s1 : (ba' txN).size = 3 := size_ba _
  have s2 : (ba' []).size = 0 := size_ba _
  have hsz : 0 < (ba' txN).size := by rw [s1]; decide
  have g36 : ((((ba' txN)[0]'hsz).toNat : Int) == 36) = false := rfl
  have g34 : ((((ba' txN)[0]'hsz).toNat : Int) == 34) = false := rfl
  have g39 : ((((ba' txN)[0]'hsz).toNat : Int) == 39) = false := rfl
  have g46 : ((((ba' txN)[0]'hsz).toNat : Int) == 46) = false := rfl
  have HD : Hid (Calls Tryz.prog 47 #[.string (ba' txN)] w fun e w' => e = .returned (.int .i64 0) ∧ Below w.heap.size w w') := Lib.hid (by
    have h := digits_any txN txN rfl (by decide) (by decide) w
    rw [Int.sub_self] at h
    exact h)
  have HQ : Hid (∀ W : World, Below w.heap.size w W → Calls Tryz.prog 50 #[.string (ba' txN)] W fun e w' => e = .returned (.string (ba' txN)) ∧ Below W.heap.size W w') :=
    Lib.hid fun W hW => qual_ab W (Utf8Tabs_below hT hW)
  clear hT
  go_enter Tryz.func24, Tryz.ntmps24
  go_wp2_with fail
  refine HD.out.mono ?_
  rintro e w1 ⟨rfl, hb1⟩
  have HB1 := Lib.hid hb1
  clear hb1
  go_wp2_with fail
  refine (sign_none w1).mono ?_
  rintro e w2 ⟨rfl, hb2⟩
  have HB2 := Lib.hid (bt HB1.out hb2)
  clear hb2
  go_wp2_with fail
  refine (HQ.out w2 HB2.out).mono ?_
  rintro e w3 ⟨rfl, hb3⟩
  have HB3 := Lib.hid (bt HB2.out hb3)
  clear hb3
  go_wp2
  go_ret3
  exact ⟨rfl, HB3.out⟩
/-- "(: r :) a-b" -/
def txR : List UInt8 := [40, 58, 32, 114, 32, 58, 41, 32, 97, 45, 98]
theorem remark_r (w : World) : Calls Tryz.prog 44 #[.string (ba' txR)] w fun e w' => e = .returned (.int .i64 7) ∧ Below w.heap.size w w' := by
  have s1 : (ba' txR).size = 11 := size_ba _
  have x0 : ((ba' txR).extract 0 2).toList = [40, 58] := by rw [ByteArray.toList_eq, extract_list]; rfl
  have x2 : ((ba' txR).extract 2 4).toList = [32, 114] := by rw [ByteArray.toList_eq, extract_list]; rfl
  have x3 : ((ba' txR).extract 3 5).toList = [114, 32] := by rw [ByteArray.toList_eq, extract_list]; rfl
  have x4 : ((ba' txR).extract 4 6).toList = [32, 58] := by rw [ByteArray.toList_eq, extract_list]; rfl
  have x5 : ((ba' txR).extract 5 7).toList = [58, 41] := by rw [ByteArray.toList_eq, extract_list]; rfl
  go_enter Tryz.func44, Tryz.ntmps44
  go_wp2
  refine wp_loop_rounds 6 ?_
  rw [rounds_succ]
  go_wp2
  rw [rounds_succ]
  go_wp2
  rw [rounds_succ]
  go_wp2
  rw [rounds_succ]
  go_wp2
  rw [rounds_succ]
  go_wp2
  go_ret
  exact ⟨rfl, Below.refl _ _⟩
theorem passed_r (w : World) :
    Calls Tryz.prog 23 #[.string (ba' (32 :: txR))] w fun e w' => e = .returned (.tuple #[.string (ba' txN), .bool true]) ∧ Below w.heap.size w w' := by
  have HT : Hid (∀ W : World, Calls Tryz.prog 42 #[.string (ba' (32 :: txR)), .string (ba' [9, 10, 13, 32])] W fun e w' => e = .returned (.string (ba' txR)) ∧ Below W.heap.size W w') :=
    Lib.hid fun W => trimLeft_any (32 :: txR) [9, 10, 13, 32] W (by decide) (by decide)
  have HT2 : Hid (∀ W : World, Calls Tryz.prog 42 #[.string (ba' (32 :: txN)), .string (ba' [9, 10, 13, 32])] W fun e w' => e = .returned (.string (ba' txN)) ∧ Below W.heap.size W w') :=
    Lib.hid fun W => trimLeft_any (32 :: txN) [9, 10, 13, 32] W (by decide) (by decide)
  have h1 : Lib.hasPrefix (ba' txR).data.toList (⟨#[40, 58]⟩ : ByteArray).data.toList = true := rfl
  have h2 : Lib.hasPrefix (ba' txN).data.toList (⟨#[40, 58]⟩ : ByteArray).data.toList = false := rfl
  have s1 : (ba' txR).size = 11 := size_ba _
  have HX : Hid ((ba' txR).extract 7 11 = ba' (32 :: txN)) := Lib.hid (cut_drop txR 7)
  go_enter Tryz.func23, Tryz.ntmps23
  go_wp2_with fail
  refine (HT.out w).mono ?_
  rintro e w1 ⟨rfl, hb1⟩
  have HB1 := Lib.hid hb1
  clear hb1
  go_wp2
  refine wp_loop_rounds 2 ?_
  rw [rounds_succ]
  go_wp2_with fail
  refine (Tryz.strings_HasPrefix (ba' txR) ⟨#[40, 58]⟩ w1).mono ?_
  rintro e w2 ⟨rfl, rfl⟩
  rw [h1]
  go_wp2_with fail
  refine (remark_r w2).mono ?_
  rintro e w3 ⟨rfl, hb3⟩
  have HB3 := Lib.hid (bt HB1.out hb3)
  clear hb3
  go_wp2_with fail
  rw [HX.out]
  refine (HT2.out w3).mono ?_
  rintro e w4 ⟨rfl, hb4⟩
  have HB4 := Lib.hid (bt HB3.out hb4)
  clear hb4
  go_wp2
  rw [rounds_succ]
  go_wp2_with fail
  refine (Tryz.strings_HasPrefix (ba' txN) ⟨#[40, 58]⟩ w4).mono ?_
  rintro e w5 ⟨rfl, rfl⟩
  rw [h2]
  go_wp2
  go_ret2
  exact ⟨rfl, HB4.out⟩
end Go.Proofs.YtolkfhiominjbaaGreatDoor
