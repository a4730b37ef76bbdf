/- Tokens that begin with a quote; spaces; the next token; the two calls of Next that the law makes. No condition beyond what the theorems state. -/
import Derived.Test.YtagofbdbmkemfaaGreatDoorPieces
import Derived.Test.YtagofbdbmkemfaaGreatDoorValid
import Derived.Shelf.Strings.SlTrimAscii
namespace Go.Proofs.YtagofbdbmkemfaaGreatDoor
open Go.RowKit Go.Lib
set_option maxRecDepth 100000
set_option maxHeartbeats 8000000
theorem trimLeft_any (s c : List UInt8) (w : World) (hc : c.length < 4294967281) (ha : ∀ b ∈ c, b.toNat < 128) : Calls Tryz.prog 31 #[.string (ba' s), .string (ba' c)] w fun e w' => e = .returned (.string (ba' (Lib.trimLeftS s c))) ∧ Below w.heap.size w w' :=
  Any.strings_TrimLeft_laid Tryz.lays161 (by kernel_rfl) (ba' s) (ba' c) w (by rw [size_ba]; exact hc) fun j b hb => ha b (List.mem_of_getElem? hb)
theorem passed_any (s left : List UInt8) (h1 : Lib.trimLeftS s [9, 10, 13, 32] = left) (h2 : Lib.hasPrefix left [40, 58] = false) (w : World) :
    Calls Tryz.prog 17 #[.string (ba' s)] w fun e w' => e = .returned (.tuple #[.string (ba' left), .bool true]) ∧ Below w.heap.size w w' := by
  have HT := Lib.hid (trimLeft_any s [9, 10, 13, 32] w (by decide) (by decide))
  rw [h1] at HT
  have h2' : Lib.hasPrefix (ba' left).data.toList (⟨#[40, 58]⟩ : ByteArray).data.toList = false := h2
  clear h1 h2
  go_enter Tryz.func17, Tryz.ntmps17
  go_wp2_with fail
  refine HT.out.mono ?_
  rintro e w1 ⟨rfl, hb1⟩
  have HB1 := Lib.hid hb1
  clear hb1
  go_wp2
  refine wp_loop_rounds 1 ?_
  rw [rounds_succ]
  go_wp2_with fail
  refine (Tryz.strings_HasPrefix (ba' left) ⟨#[40, 58]⟩ w1).mono ?_
  rintro e w2 ⟨rfl, rfl⟩
  rw [h2']
  clear h2'
  go_wp2
  go_ret2
  exact ⟨rfl, HB1.out⟩
theorem quoted_end (q : UInt8) (hq : q = 34 ∨ q = 39) (s : List UInt8) (hlen : (esc q s).length ≤ 90000) (w : World) (v : Int) (hm : w.cell? ⟨2, 0, none⟩ = some (.int .i64 v)) :
    Calls Tryz.prog 35 #[.string (ba' (q :: esc q s))] w fun e w' => e = .returned (.tuple #[.int .i64 0, .string (ba' []), .int .i64 0]) ∧ Below w.heap.size w w' := by
  have HR := Lib.hid (read_any q hq s [] (.inl rfl) (by simpa using Nat.le_trans hlen (by decide)) w v hm)
  rw [List.append_nil] at HR
  have e1 : Hid ((ba' (q :: esc q s)).extract 0 1 = ba' [q]) := Lib.hid (by
    apply ByteArray.ext
    apply Array.toList_inj.1
    rw [extract_list]
    rfl)
  have e2 : Hid ((ba' (q :: esc q s)).extract 1 (ba' (q :: esc q s)).size = ba' (esc q s)) := Lib.hid (cut_drop (q :: esc q s) 1)
  have hsz := sz_cons q (esc q s)
  have hem : (ba' []).toList.isEmpty = true := by rw [toList_ba]; rfl
  have hz1 : ¬ ((ba' (q :: esc q s)).size < 1) := by omega
  go_enter Tryz.func35, Tryz.ntmps35
  go_wp2_with fail
  rw [e1.out, e2.out]
  refine HR.out.mono ?_
  rintro e w1 ⟨rfl, hb1⟩
  have HB1 := Lib.hid hb1
  clear hb1
  go_wp2
  go_ret3
  exact ⟨rfl, HB1.out⟩
theorem quoted_tok (q : UInt8) (hq : q = 34 ∨ q = 39) (s : List UInt8) (c : UInt8) (t : List UInt8) (hc : c ≠ q) (hlen : (esc q s).length + t.length ≤ 90000) (w : World) (v : Int) (hm : w.cell? ⟨2, 0, none⟩ = some (.int .i64 v)) :
    Calls Tryz.prog 35 #[.string (ba' (q :: (esc q s ++ q :: c :: t)))] w fun e w' => e = .returned (.tuple #[.int .i64 5, .string (ba' s), .int .i64 ((esc q s).length + 2 : Nat)]) ∧ Below w.heap.size w w' := by
  have HR := Lib.hid (read_any q hq s (q :: c :: t) (.inr ⟨c, t, rfl, hc⟩) (by simp only [List.length_append, List.length_cons]; omega) w v hm)
  obtain ⟨X, hX⟩ : ∃ X, esc q s ++ q :: c :: t = X := ⟨_, rfl⟩
  have HXL : Hid (X.length = (esc q s).length + t.length + 2) := Lib.hid (by rw [← hX]; simp; omega)
  rw [hX] at HR ⊢
  have e1 : Hid ((ba' (q :: X)).extract 0 1 = ba' [q]) := Lib.hid (by
    apply ByteArray.ext
    apply Array.toList_inj.1
    rw [extract_list]
    rfl)
  have e2 : Hid ((ba' (q :: X)).extract 1 (ba' (q :: X)).size = ba' X) := Lib.hid (cut_drop (q :: X) 1)
  have hsz := sz_cons q X
  have hem : (ba' (q :: c :: t)).toList.isEmpty = false := by rw [toList_ba]; rfl
  have hz1 : ¬ ((ba' (q :: X)).size < 1) := by omega
  go_enter Tryz.func35, Tryz.ntmps35
  go_wp2_with fail
  rw [e1.out, e2.out]
  refine HR.out.mono ?_
  rintro e w1 ⟨rfl, hb1⟩
  have HB1 := Lib.hid hb1
  have s1 : (ba' (q :: X)).size = (esc q s).length + t.length + 3 := by rw [size_ba, List.length_cons, HXL.out]
  have s2 : (ba' (q :: c :: t)).size = t.length + 2 := by rw [size_ba]; rfl
  have s3 : (ba' [q]).size = 1 := by rw [size_ba]; rfl
  clear hb1 hX hsz hz1
  go_wp2
  go_ret3
  refine ⟨?_, HB1.out⟩
  rw [show (((esc q s).length : Nat) : Int) + (t.length : Int) + 3 - ((t.length : Int) + 2) + 1 = ((esc q s).length + 2 : Nat) by omega]
  rfl
/-- What begins with a quote is quoted. -/
theorem token_quote (q : UInt8) (hq : q = 34 ∨ q = 39) (X : List UInt8) (k n : Int) (text : List UInt8) (w : World) (H : Hid (Calls Tryz.prog 35 #[.string (ba' (q :: X))] w fun e w' => e = .returned (.tuple #[.int .i64 k, .string (ba' text), .int .i64 n]) ∧ Below w.heap.size w w')) :
    Calls Tryz.prog 18 #[.string (ba' (q :: X))] w fun e w' => e = .returned (.tuple #[.int .i64 k, .string (ba' text), .int .i64 n]) ∧ Below w.heap.size w w' := by
  have hsz := sz_cons q X
  have g36 : ((((ba' (q :: X))[0]'hsz).toNat : Int) == 36) = false := by rw [at_cons]; rcases hq with rfl | rfl <;> rfl
  rcases hq with rfl | rfl
  · have g34 : ((((ba' (34 :: X))[0]'hsz).toNat : Int) == 34) = true := rfl
    go_enter Tryz.func18, Tryz.ntmps18
    go_wp2_with fail
    refine H.out.mono ?_
    rintro e w1 ⟨rfl, hb1⟩
    have HB1 := Lib.hid hb1
    clear hb1
    go_wp2
    go_ret3
    exact ⟨rfl, HB1.out⟩
  · have g34 : ((((ba' (39 :: X))[0]'hsz).toNat : Int) == 34) = false := rfl
    have g39 : ((((ba' (39 :: X))[0]'hsz).toNat : Int) == 39) = true := rfl
    go_enter Tryz.func18, Tryz.ntmps18
    go_wp2_with fail
    refine H.out.mono ?_
    rintro e w1 ⟨rfl, hb1⟩
    have HB1 := Lib.hid hb1
    clear hb1
    go_wp2
    go_ret3
    exact ⟨rfl, HB1.out⟩
theorem readable_any (s : List UInt8) (h : s.length ≤ 65536) (hv : validX s = true) (w : World) (hT : tabs w) : Calls Tryz.prog 11 #[.string (ba' s), .int .i64 0] w fun e w' => e = .returned (.bool true) ∧ Below w.heap.size w w' := by
  have hs : (ba' s).size = s.length := size_ba s
  have HV := Lib.hid (valid_any (some ⟨w.heap.size, 0, none⟩) 1 1 [ba' s] (w.alloc (.cells #[.string (ba' s)] 9)) rfl (by decide) (Utf8Tabs_below hT (ba (Below.refl _ _))) (one_str w (ba' s) (by rw [size_ba]; unfold maxLen; omega)))
  have e1 : [ba' s].all vS = true := by
    show (vS (ba' s) && true) = true
    rw [Bool.and_true]
    exact hv
  rw [e1] at HV
  clear hv hT e1
  go_enter Tryz.func11, Tryz.ntmps11
  go_wp2_with fail
  refine HV.out.mono ?_
  rintro e w1 ⟨rfl, hb1⟩
  have HB1 := Lib.hid (bt (ba (Below.refl _ _)) hb1)
  clear hb1
  go_wp2
  go_ret
  exact ⟨rfl, HB1.out⟩
/-- The next token, where there is one. -/
theorem next_tok (s left text : List UInt8) (at' k n : Nat) (w : World) (hs : s.length ≤ 70000) (hat : at' ≤ s.length) (hl : left.length ≤ s.length) (hne : left ≠ []) (hn : 0 < n) (hn2 : n ≤ 70000)
    (HP : Hid (∀ w1, Below w.heap.size w w1 → Calls Tryz.prog 17 #[.string (ba' (s.drop at'))] w1 fun e w' => e = .returned (.tuple #[.string (ba' left), .bool true]) ∧ Below w1.heap.size w1 w'))
    (HT : Hid (∀ w1, Below w.heap.size w w1 → Calls Tryz.prog 18 #[.string (ba' left)] w1 fun e w' => e = .returned (.tuple #[.int .i64 k, .string (ba' text), .int .i64 n]) ∧ Below w1.heap.size w1 w')) :
    Calls Tryz.prog 12 #[.string (ba' s), .int .i64 at'] w fun e w' => e = .returned (.tuple #[.agg #[.int .i64 k, .string (ba' text), .int .i64 (s.length - left.length : Nat), .int .i64 (s.length - left.length + n : Nat)], .int .i64 0]) ∧ Below w.heap.size w w' := by
  have s1 : (ba' s).size = s.length := size_ba s
  have s2 : (ba' left).size = left.length := size_ba left
  have hem : (ba' left).toList.isEmpty = false := by rw [toList_ba]; cases left with | nil => exact absurd rfl hne | cons => rfl
  have HEX : Hid ((ba' s).extract at' s.length = ba' (s.drop at')) := Lib.hid (by rw [← s1]; exact cut_drop s at')
  have g0 : ((n : Int) == 0) = false := by rw [beq_eq_false_iff_ne]; omega
  have ga : ¬ ((s.length : Int) < (at' : Int)) := by omega
  go_enter Tryz.func12, Tryz.ntmps12
  go_wp2_with fail
  rw [HEX.out]
  refine (HP.out _ (ba (Below.refl _ _))).mono ?_
  rintro e w1 ⟨rfl, hb1⟩
  have HB1 : Hid (Below w.heap.size w w1) := Lib.hid (bt (ba (Below.refl _ _)) hb1)
  have c0 := fun o => hb1.cell (p := ⟨w.heap.size, o, none⟩) (by simp)
  have f0 := fun o => hb1.frozen (p := ⟨w.heap.size, o, none⟩) (by simp)
  have z1 : w.heap.size < w1.heap.size := zz hb1 (by simp)
  clear hb1
  go_wp2_with fail
  refine (HT.out _ HB1.out).mono ?_
  rintro e w2 ⟨rfl, hb2⟩
  have HB2 : Hid (Below w.heap.size w w2) := Lib.hid (bt HB1.out hb2)
  have c2 := fun o => (hb2.cell (p := ⟨w.heap.size, o, none⟩) z1).trans (c0 o)
  have f2 := fun o => (hb2.frozen (p := ⟨w.heap.size, o, none⟩) z1).trans (f0 o)
  have z2 : w.heap.size < w2.heap.size := zz hb2 z1
  clear hb2 c0 f0
  have k1 : ((s.length : Int) - (left.length : Int)) = (s.length - left.length : Nat) := by omega
  go_wp2
  refine bodyPost_ret (v := .tuple #[.agg #[.int .i64 k, .string (ba' text), .int .i64 (s.length - left.length : Nat), .int .i64 (s.length - left.length + n : Nat)], .int .i64 0]) ?_ rfl ⟨rfl, ?_⟩
  · rw [show ((s.length - left.length + n : Nat) : Int) = ((s.length - left.length : Nat) : Int) + (n : Int) by omega]
    have d0 : w2.cell? ⟨w.heap.size, 0, none⟩ = some (.int .i64 0) := (c2 0).trans (by simp)
    have d1 : w2.cell? ⟨w.heap.size, 1, none⟩ = some (.string ⟨#[]⟩) := (c2 1).trans (by simp)
    have d2 : w2.cell? ⟨w.heap.size, 2, none⟩ = some (.int .i64 0) := (c2 2).trans (by simp)
    have d3 : w2.cell? ⟨w.heap.size, 3, none⟩ = some (.int .i64 0) := (c2 3).trans (by simp)
    clear c2 f2
    simp [results, Tryz.results12, go_sem, *]
  · exact (((HB2.out.setCell (p := ⟨w.heap.size, 0, none⟩) (Nat.le_refl _) _).setCell (p := ⟨w.heap.size, 1, none⟩) (Nat.le_refl _) _).setCell (p := ⟨w.heap.size, 2, none⟩) (Nat.le_refl _) _).setCell (p := ⟨w.heap.size, 3, none⟩) (Nat.le_refl _) _
/-- Where no token begins. -/
theorem next_bad (s left text : List UInt8) (at' k : Nat) (w : World) (hs : s.length ≤ 70000) (hat : at' ≤ s.length) (hl : left.length ≤ s.length) (hne : left ≠ [])
    (HP : Hid (∀ w1, Below w.heap.size w w1 → Calls Tryz.prog 17 #[.string (ba' (s.drop at'))] w1 fun e w' => e = .returned (.tuple #[.string (ba' left), .bool true]) ∧ Below w1.heap.size w1 w'))
    (HT : Hid (∀ w1, Below w.heap.size w w1 → Calls Tryz.prog 18 #[.string (ba' left)] w1 fun e w' => e = .returned (.tuple #[.int .i64 k, .string (ba' text), .int .i64 0]) ∧ Below w1.heap.size w1 w')) :
    Calls Tryz.prog 12 #[.string (ba' s), .int .i64 at'] w fun e w' => e = .returned (.tuple #[.agg #[.int .i64 0, .string ⟨#[]⟩, .int .i64 0, .int .i64 0], .int .i64 40]) ∧ Below w.heap.size w w' := by
  have s1 : (ba' s).size = s.length := size_ba s
  have s2 : (ba' left).size = left.length := size_ba left
  have hem : (ba' left).toList.isEmpty = false := by rw [toList_ba]; cases left with | nil => exact absurd rfl hne | cons => rfl
  have HEX : Hid ((ba' s).extract at' s.length = ba' (s.drop at')) := Lib.hid (by rw [← s1]; exact cut_drop s at')
  have ga : ¬ ((s.length : Int) < (at' : Int)) := by omega
  go_enter Tryz.func12, Tryz.ntmps12
  go_wp2_with fail
  rw [HEX.out]
  refine (HP.out _ (ba (Below.refl _ _))).mono ?_
  rintro e w1 ⟨rfl, hb1⟩
  have HB1 : Hid (Below w.heap.size w w1) := Lib.hid (bt (ba (Below.refl _ _)) hb1)
  have c0 := fun o => hb1.cell (p := ⟨w.heap.size, o, none⟩) (by simp)
  have f0 := fun o => hb1.frozen (p := ⟨w.heap.size, o, none⟩) (by simp)
  have z1 : w.heap.size < w1.heap.size := zz hb1 (by simp)
  clear hb1
  go_wp2_with fail
  refine (HT.out _ HB1.out).mono ?_
  rintro e w2 ⟨rfl, hb2⟩
  have HB2 : Hid (Below w.heap.size w w2) := Lib.hid (bt HB1.out hb2)
  have c2 := fun o => (hb2.cell (p := ⟨w.heap.size, o, none⟩) z1).trans (c0 o)
  have f2 := fun o => (hb2.frozen (p := ⟨w.heap.size, o, none⟩) z1).trans (f0 o)
  have z2 : w.heap.size < w2.heap.size := zz hb2 z1
  clear hb2 c0 f0
  have k1 : ((s.length : Int) - (left.length : Int)) = (s.length - left.length : Nat) := by omega
  go_wp2
  refine bodyPost_ret (v := .tuple #[.agg #[.int .i64 0, .string ⟨#[]⟩, .int .i64 0, .int .i64 0], .int .i64 40]) ?_ rfl ⟨rfl, ?_⟩
  · have d0 : w2.cell? ⟨w.heap.size, 0, none⟩ = some (.int .i64 0) := (c2 0).trans (by simp)
    have d1 : w2.cell? ⟨w.heap.size, 1, none⟩ = some (.string ⟨#[]⟩) := (c2 1).trans (by simp)
    have d2 : w2.cell? ⟨w.heap.size, 2, none⟩ = some (.int .i64 0) := (c2 2).trans (by simp)
    have d3 : w2.cell? ⟨w.heap.size, 3, none⟩ = some (.int .i64 0) := (c2 3).trans (by simp)
    clear c2 f2
    simp [results, Tryz.results12, go_sem, *]
  · exact (((HB2.out.setCell (p := ⟨w.heap.size, 0, none⟩) (Nat.le_refl _) _).setCell (p := ⟨w.heap.size, 1, none⟩) (Nat.le_refl _) _).setCell (p := ⟨w.heap.size, 2, none⟩) (Nat.le_refl _) _).setCell (p := ⟨w.heap.size, 3, none⟩) (Nat.le_refl _) _
/-- At a text's end. -/
theorem next_end (s : List UInt8) (at' : Nat) (w : World) (hs : s.length ≤ 70000) (hat : at' ≤ s.length)
    (HP : Hid (∀ w1, Below w.heap.size w w1 → Calls Tryz.prog 17 #[.string (ba' (s.drop at'))] w1 fun e w' => e = .returned (.tuple #[.string (ba' []), .bool true]) ∧ Below w1.heap.size w1 w')) :
    Calls Tryz.prog 12 #[.string (ba' s), .int .i64 at'] w fun e w' => e = .returned (.tuple #[.agg #[.int .i64 0, .string ⟨#[]⟩, .int .i64 s.length, .int .i64 s.length], .int .i64 0]) ∧ Below w.heap.size w w' := by
  have s1 : (ba' s).size = s.length := size_ba s
  have s2 : (ba' []).size = 0 := size_ba []
  have hem : (ba' []).toList.isEmpty = true := by rw [toList_ba]; rfl
  have HEX : Hid ((ba' s).extract at' s.length = ba' (s.drop at')) := Lib.hid (by rw [← s1]; exact cut_drop s at')
  have ga : ¬ ((s.length : Int) < (at' : Int)) := by omega
  go_enter Tryz.func12, Tryz.ntmps12
  go_wp2_with fail
  rw [HEX.out]
  refine (HP.out _ (ba (Below.refl _ _))).mono ?_
  rintro e w1 ⟨rfl, hb1⟩
  have HB2 : Hid (Below w.heap.size w w1) := Lib.hid (bt (ba (Below.refl _ _)) hb1)
  have c2 := fun o => hb1.cell (p := ⟨w.heap.size, o, none⟩) (by simp)
  have f0 := fun o => hb1.frozen (p := ⟨w.heap.size, o, none⟩) (by simp)
  have z1 : w.heap.size < w1.heap.size := zz hb1 (by simp)
  clear hb1
  go_wp2
  refine bodyPost_ret (v := .tuple #[.agg #[.int .i64 0, .string ⟨#[]⟩, .int .i64 s.length, .int .i64 s.length], .int .i64 0]) ?_ rfl ⟨rfl, ?_⟩
  · have d0 : w1.cell? ⟨w.heap.size, 0, none⟩ = some (.int .i64 0) := (c2 0).trans (by simp)
    have d1 : w1.cell? ⟨w.heap.size, 1, none⟩ = some (.string ⟨#[]⟩) := (c2 1).trans (by simp)
    have d2 : w1.cell? ⟨w.heap.size, 2, none⟩ = some (.int .i64 0) := (c2 2).trans (by simp)
    have d3 : w1.cell? ⟨w.heap.size, 3, none⟩ = some (.int .i64 0) := (c2 3).trans (by simp)
    clear c2 f0
    simp [results, Tryz.results12, go_sem, *]
  · exact (((HB2.out.setCell (p := ⟨w.heap.size, 0, none⟩) (Nat.le_refl _) _).setCell (p := ⟨w.heap.size, 1, none⟩) (Nat.le_refl _) _).setCell (p := ⟨w.heap.size, 2, none⟩) (Nat.le_refl _) _).setCell (p := ⟨w.heap.size, 3, none⟩) (Nat.le_refl _) _
/-- Next of a readable text. -/
theorem Next_any (s : List UInt8) (t0 t2 t3 : Int) (t1 : ByteArray) (e0 : Int) (w : World) (hs : s.length ≤ 65536) (hv : validX s = true) (hTb : tabs w)
    (HN : Hid (∀ w1, Below w.heap.size w w1 → Calls Tryz.prog 12 #[.string (ba' s), .int .i64 0] w1 fun e w' => e = .returned (.tuple #[.agg #[.int .i64 t0, .string t1, .int .i64 t2, .int .i64 t3], .int .i64 e0]) ∧ Below w1.heap.size w1 w')) :
    Calls Tryz.prog 6 #[.string (ba' s), .int .i64 0] w fun e w' => e = .returned (.tuple #[.agg #[.int .i64 t0, .string t1, .int .i64 t2, .int .i64 t3], .int .i64 e0]) ∧ Below w.heap.size w w' := by
  have HR := Lib.hid (fun w1 hb1 => readable_any s hs hv w1 (Utf8Tabs_below hTb hb1))
  clear hv hTb hs
  go_enter Tryz.func6, Tryz.ntmps6
  go_wp2_with fail
  refine (HR.out _ (ba (Below.refl _ _))).mono ?_
  rintro e w1 ⟨rfl, hb1⟩
  have HB1 : Hid (Below w.heap.size w w1) := Lib.hid (bt (ba (Below.refl _ _)) hb1)
  have c0 := fun o => hb1.cell (p := ⟨w.heap.size, o, none⟩) (by simp)
  have f0 := fun o => hb1.frozen (p := ⟨w.heap.size, o, none⟩) (by simp)
  have z1 : w.heap.size < w1.heap.size := zz hb1 (by simp)
  clear hb1
  go_wp2_with fail
  refine (HN.out _ HB1.out).mono ?_
  rintro e w2 ⟨rfl, hb2⟩
  have HB2 : Hid (Below w.heap.size w w2) := Lib.hid (bt HB1.out hb2)
  have c2 := fun o => (hb2.cell (p := ⟨w.heap.size, o, none⟩) z1).trans (c0 o)
  have f2 := fun o => (hb2.frozen (p := ⟨w.heap.size, o, none⟩) z1).trans (f0 o)
  have z2 : w.heap.size < w2.heap.size := zz hb2 z1
  clear hb2 c0 f0
  go_wp2
  refine bodyPost_ret (v := .tuple #[.agg #[.int .i64 t0, .string t1, .int .i64 t2, .int .i64 t3], .int .i64 e0]) ?_ rfl ⟨rfl, ?_⟩
  · have d0 : w2.cell? ⟨w.heap.size, 0, none⟩ = some (.int .i64 0) := (c2 0).trans (by simp)
    have d1 : w2.cell? ⟨w.heap.size, 1, none⟩ = some (.string ⟨#[]⟩) := (c2 1).trans (by simp)
    have d2 : w2.cell? ⟨w.heap.size, 2, none⟩ = some (.int .i64 0) := (c2 2).trans (by simp)
    have d3 : w2.cell? ⟨w.heap.size, 3, none⟩ = some (.int .i64 0) := (c2 3).trans (by simp)
    clear c2 f2
    simp [results, Tryz.results6, go_sem, *]
  · exact (((HB2.out.setCell (p := ⟨w.heap.size, 0, none⟩) (Nat.le_refl _) _).setCell (p := ⟨w.heap.size, 1, none⟩) (Nat.le_refl _) _).setCell (p := ⟨w.heap.size, 2, none⟩) (Nat.le_refl _) _).setCell (p := ⟨w.heap.size, 3, none⟩) (Nat.le_refl _) _
end Go.Proofs.YtagofbdbmkemfaaGreatDoor
namespace Go.Proofs.YtagofbdbmkemfaaGreatDoor
open Go.RowKit Go.Lib
set_option maxRecDepth 100000
set_option maxHeartbeats 8000000
theorem ba_app (a b : List UInt8) : ba' a ++ ba' b = ba' (a ++ b) := by
  apply ByteArray.ext
  apply Array.toList_inj.1
  simp [ba']
theorem cut_one (s : List UInt8) (i : Nat) (c : UInt8) (h : s[i]? = some c) : (ba' s).extract i (i + 1) = ba' [c] := by
  apply ByteArray.ext
  apply Array.toList_inj.1
  rw [extract_list]
  show (s.take (i + 1)).drop i = [c]
  have hl : i < s.length := (List.getElem?_eq_some_iff.1 h).1
  rw [List.take_add_one, h, List.drop_append_of_le_length (by rw [List.length_take]; omega), List.drop_eq_nil_of_le (by rw [List.length_take]; omega)]
  rfl
theorem cut_take (l : List UInt8) (k : Nat) : (ba' l).extract 0 k = ba' (l.take k) := by
  apply ByteArray.ext
  apply Array.toList_inj.1
  rw [extract_list]
  rfl
theorem esc_le (q : UInt8) : ∀ l : List UInt8, (esc q l).length ≤ 5 * l.length
  | [] => Nat.le_refl _
  | a :: l => by
    have := esc_le q l
    rw [esc_cons, List.length_append, List.length_cons]
    have : (escB q a).length ≤ 5 := by
      unfold escB
      split
      · simp
      · split <;> simp
    omega
theorem eq_bytes {a b : List UInt8} (h : a ≠ b) : ((ba' a).toList == (ba' b).toList) = false := by
  rw [toList_ba, toList_ba]
  simpa using h
theorem valid_all (q : UInt8) (hq : q = 34 ∨ q = 39) (s : List UInt8) (hv : validX s = true) : validX (q :: esc q s) = true ∧ validX (32 :: q :: (esc q s ++ [q, 97])) = true := by
  have hvq : validX [q] = true := by rcases hq with rfl | rfl <;> decide
  have hve := esc_valid q hq _ s (Nat.le_refl _) hv
  constructor
  · have := validX_append (esc q s) hvq
    rw [List.singleton_append] at this
    rw [this]; exact hve
  · have h1 : validX [32, q] = true := by rcases hq with rfl | rfl <;> decide
    have h2 : validX [q, 97] = true := by rcases hq with rfl | rfl <;> decide
    have := validX_append (esc q s ++ [q, 97]) h1
    have e : [32, q] ++ (esc q s ++ [q, 97]) = 32 :: q :: (esc q s ++ [q, 97]) := rfl
    rw [e] at this
    rw [this, validX_append _ hve]; exact h2
theorem next_yes (q : UInt8) (hq : q = 34 ∨ q = 39) (s : List UInt8) (hs : s.length ≤ 3000) (hv : validX s = true) (w : World) (hT : tabs w) (v : Int) (hm : w.cell? ⟨2, 0, none⟩ = some (.int .i64 v)) :
    Calls Tryz.prog 6 #[.string (ba' (32 :: q :: (esc q s ++ [q, 97]))), .int .i64 0] w fun e w' => e = .returned (.tuple #[.agg #[.int .i64 5, .string (ba' s), .int .i64 1, .int .i64 (((esc q s).length + 3 : Nat) : Int)], .int .i64 0]) ∧ Below w.heap.size w w' := by
  have hl := esc_le q s
  have hg2 : 2 < w.heap.size := World.block_lt_of_cell? w ⟨2, 0, none⟩ hm
  have hlen : (32 :: q :: (esc q s ++ [q, 97])).length = (esc q s).length + 4 := by simp
  have hlen2 : (q :: (esc q s ++ q :: 97 :: [])).length = (esc q s).length + 3 := by simp
  refine Next_any _ _ _ _ _ _ w (by rw [hlen]; omega) (valid_all q hq s hv).2 hT (Lib.hid fun w1 hb1 => ?_)
  have h := next_tok (32 :: q :: (esc q s ++ [q, 97])) (q :: (esc q s ++ q :: 97 :: [])) s 0 5 ((esc q s).length + 2) w1 (by rw [hlen]; omega) (Nat.zero_le _) (by rw [hlen, hlen2]; omega) (by simp) (by omega) (by omega)
    (Lib.hid fun w2 hb2 => passed_any _ (q :: (esc q s ++ q :: 97 :: [])) (by rcases hq with rfl | rfl <;> rfl) (by rcases hq with rfl | rfl <;> rfl) w2)
    (Lib.hid fun w2 hb2 => token_quote q hq (esc q s ++ q :: 97 :: []) 5 ((esc q s).length + 2 : Nat) s w2 (Lib.hid (quoted_tok q hq s 97 [] (by rcases hq with rfl | rfl <;> decide) (by simp; omega) w2 v ((hb2.cell (p := ⟨2, 0, none⟩) (Nat.lt_of_lt_of_le hg2 hb1.size)).trans ((hb1.cell (p := ⟨2, 0, none⟩) hg2).trans hm)))))
  rw [hlen, hlen2, show (esc q s).length + 4 - ((esc q s).length + 3) = 1 by omega, show 1 + ((esc q s).length + 2) = (esc q s).length + 3 by omega] at h
  exact h
theorem next_no (q : UInt8) (hq : q = 34 ∨ q = 39) (s : List UInt8) (hs : s.length ≤ 3000) (hv : validX s = true) (w : World) (hT : tabs w) (v : Int) (hm : w.cell? ⟨2, 0, none⟩ = some (.int .i64 v)) :
    Calls Tryz.prog 6 #[.string (ba' (q :: esc q s)), .int .i64 0] w fun e w' => e = .returned (.tuple #[.agg #[.int .i64 0, .string ⟨#[]⟩, .int .i64 0, .int .i64 0], .int .i64 40]) ∧ Below w.heap.size w w' := by
  have hl := esc_le q s
  have hg2 : 2 < w.heap.size := World.block_lt_of_cell? w ⟨2, 0, none⟩ hm
  have hlen : (q :: esc q s).length = (esc q s).length + 1 := by simp
  refine Next_any _ _ _ _ _ _ w (by rw [hlen]; omega) (valid_all q hq s hv).1 hT (Lib.hid fun w1 hb1 => ?_)
  exact next_bad (q :: esc q s) (q :: esc q s) [] 0 0 w1 (by rw [hlen]; omega) (Nat.zero_le _) (Nat.le_refl _) (by simp)
    (Lib.hid fun w2 hb2 => passed_any _ (q :: esc q s) (by rcases hq with rfl | rfl <;> rfl) (by rcases hq with rfl | rfl <;> rfl) w2)
    (Lib.hid fun w2 hb2 => token_quote q hq (esc q s) 0 0 [] w2 (Lib.hid (quoted_end q hq s (by omega) w2 v ((hb2.cell (p := ⟨2, 0, none⟩) (Nat.lt_of_lt_of_le hg2 hb1.size)).trans ((hb1.cell (p := ⟨2, 0, none⟩) hg2).trans hm)))))
end Go.Proofs.YtagofbdbmkemfaaGreatDoor
