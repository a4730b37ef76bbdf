/- The reference Next: blocks of tokens; names, variables, strings. No condition beyond what the theorems state. -/
import Derived.Test.YtolkfhiominjbaaGreatDoorRefRefs
import Derived.Test.YtolkfhiominjbaaGreatDoorRefName
import Derived.Test.YtolkfhiominjbaaGreatDoorRefSkip
import Derived.Test.YtolkfhiominjbaaGreatDoorRefSmall
namespace Go.Proofs.YtolkfhiominjbaaGreatDoor
open Go.RowKit Go.Lib
set_option maxRecDepth 100000
set_option maxHeartbeats 4000000
/-- The four cells of a token that lies in a block. -/
def Tok4 (w : World) (b : Nat) (v0 v1 v2 v3 : Value) : Prop := w.cell? ⟨b, 0, none⟩ = some v0 ∧ w.cell? ⟨b, 1, none⟩ = some v1 ∧ w.cell? ⟨b, 2, none⟩ = some v2 ∧ w.cell? ⟨b, 3, none⟩ = some v3 ∧ (∀ o, w.frozen? ⟨b, o, none⟩ = false) ∧ b < w.heap.size
theorem Tok4.below {w w' : World} {b : Nat} {v0 v1 v2 v3 : Value} (h : Tok4 w b v0 v1 v2 v3) (hb : Below w.heap.size w w') : Tok4 w' b v0 v1 v2 v3 := by
  obtain ⟨h0, h1, h2, h3, h4, h5⟩ := h
  exact ⟨(hb.cell (p := ⟨b, 0, none⟩) h5).trans h0, (hb.cell (p := ⟨b, 1, none⟩) h5).trans h1, (hb.cell (p := ⟨b, 2, none⟩) h5).trans h2, (hb.cell (p := ⟨b, 3, none⟩) h5).trans h3, fun o => (hb.frozen (p := ⟨b, o, none⟩) h5).trans (h4 o), zz hb h5⟩
theorem Tok4.set0 {w : World} {b : Nat} {v0 v1 v2 v3 : Value} (v : Value) (h : Tok4 w b v0 v1 v2 v3) : Tok4 (w.setCell ⟨b, 0, none⟩ v) b v v1 v2 v3 := by
  obtain ⟨h0, h1, h2, h3, h4, h5⟩ := h
  refine ⟨by simp [go_sem, *], by simp [go_sem, *], by simp [go_sem, *], by simp [go_sem, *], fun o => by simp [go_sem, *], ?_⟩
  simpa using h5
theorem Tok4.other {w : World} {b c o : Nat} {v0 v1 v2 v3 : Value} (v : Value) (hne : c ≠ b) (h : Tok4 w b v0 v1 v2 v3) : Tok4 (w.setCell ⟨c, o, none⟩ v) b v0 v1 v2 v3 := by
  obtain ⟨h0, h1, h2, h3, h4, h5⟩ := h
  have hne2 : b ≠ c := fun e => hne e.symm
  refine ⟨by simp [go_sem, *], by simp [go_sem, *], by simp [go_sem, *], by simp [go_sem, *], fun o => by simp [go_sem, *], ?_⟩
  simpa using h5
def tokV : Option Tk → Value
  | some t => .tuple #[.agg #[.int .i64 (t.k : Nat), .string (ba' t.x), .int .i64 (t.a : Nat), .int .i64 (t.b : Nat)], .bool true]
  | none => .tuple #[.agg #[.int .i64 0, .string ⟨#[]⟩, .int .i64 0, .int .i64 0], .bool false]
theorem pass_drop : ∀ (f : Nat) (l m : List UInt8), passGo f l = some m → ∃ k, m = l.drop k
  | 0, _, _, h => by cases h
  | f + 1, l, m, h => by
    unfold passGo at h
    split at h
    · split at h
      · cases h
      · obtain ⟨k, hk⟩ := pass_drop f _ m h
        obtain ⟨k2, hk2⟩ := trimW_drop (l.drop (remGo l 0 0))
        exact ⟨remGo l 0 0 + (k2 + k), by rw [hk, hk2, List.drop_drop, List.drop_drop]⟩
    · cases h
      exact ⟨0, rfl⟩
theorem passF_place {s : List UInt8} {i : Nat} {m : List UInt8} (h : passF (s.drop i) = some m) : m = s.drop (s.length - m.length) := by
  unfold passF at h
  obtain ⟨k, hk⟩ := pass_drop _ _ _ h
  obtain ⟨k2, hk2⟩ := trimW_drop (s.drop i)
  rw [hk2, List.drop_drop, List.drop_drop] at hk
  obtain ⟨q, hq⟩ : ∃ q, m = s.drop q := ⟨_, hk⟩
  by_cases hle : q ≤ s.length
  · have : m.length = s.length - q := by rw [hq, List.length_drop]
    rw [this, show s.length - (s.length - q) = q by omega]
    exact hq
  · have : m = [] := by rw [hq]; exact List.drop_eq_nil_iff.2 (by omega)
    rw [this]
    simp
theorem dig_drop : ∀ (d : Nat) (l : List UInt8), d ≤ digF l → digF (l.drop d) = digF l - d
  | 0, l, _ => by rw [List.drop_zero]; rfl
  | d + 1, l, h => by
    have hd : digAt l = true := by rw [dig_at, decide_eq_true_eq]; omega
    obtain ⟨_, h2⟩ := dig_step l hd
    have h3 := dig_drop d (l.drop 1) (by omega)
    rw [List.drop_drop, show 1 + d = d + 1 by omega] at h3
    rw [h3]
    omega
/-- Where the reference finds a digit, from digits on. -/
theorem dig_call (s : List UInt8) (j : Nat) (hs : s.length ≤ 70000) (hj : j ≤ s.length) (d : Nat) (hd : d ≤ digF (s.drop j)) (w : World) : Calls Tryz.prog 19 #[.string (ba' s), .int .i64 ((j + d : Nat) : Int)] w fun e w' => e = .returned (.bool (decide (d < digF (s.drop j)))) ∧ w' = w := by
  have hl : digF (s.drop j) ≤ s.length - j := by have := digF_le (s.drop j); rwa [List.length_drop] at this
  have h := digR_any s (j + d) hs (by omega) w
  rw [dig_at, ← List.drop_drop, dig_drop d _ hd] at h
  have e : decide (0 < digF (s.drop j) - d) = decide (d < digF (s.drop j)) := decide_eq_decide.2 (by omega)
  rw [e] at h
  exact h
/-- The reference's Name at a place. -/
theorem nameR_at (s : List UInt8) (j : Nat) (hs : s.length ≤ 70000) (hj : j ≤ s.length) (hv : GoodT (s.drop j)) (w : World) : Calls Tryz.prog 16 #[.string (ba' s), .int .i64 (j : Nat)] w fun e w' => e = .returned (.int .i64 ((j + (plainF (s.drop j)).length : Nat) : Int)) ∧ Below w.heap.size w w' := by
  rw [plain_good (s.drop j) (s.length + 1) (by rw [List.length_drop]; omega) hv]
  exact nameR_any s j hs hj w
theorem signs_at : ∀ k : Fin 28, ((signsL.map fun p => Value.string (ba' p)).toArray)[k.val]? = some (.string (ba' (signsL.getD k.val []))) := by
  intro k
  rw [List.getElem?_toArray, List.getElem?_map]
  have h : signsL.length = 28 := rfl
  rw [List.getD_eq_getElem?_getD, List.getElem?_eq_getElem (by omega)]
  rfl
/-- The first sign from some place of the list on. -/
def signGo (l : List UInt8) (k : Nat) : List UInt8 := ((signsL.drop k).find? fun p => Lib.hasPrefix l p).getD []
theorem signGo_step (l : List UInt8) (k : Nat) (hk : k < 28) : signGo l k = if Lib.hasPrefix l (signsL.getD k []) = true then signsL.getD k [] else signGo l (k + 1) := by
  unfold signGo
  have h : signsL.length = 28 := rfl
  rw [List.drop_eq_getElem_cons (by omega), List.find?_cons, List.getD_eq_getElem?_getD, List.getElem?_eq_getElem (by omega)]
  simp only [Option.getD_some]
  cases Lib.hasPrefix l _ <;> rfl
theorem signs_len (k : Nat) (hk : k < 28) : 1 ≤ (signsL.getD k []).length ∧ (signsL.getD k []).length ≤ 2 := by
  have h : ∀ k : Fin 28, 1 ≤ (signsL.getD k.val []).length ∧ (signsL.getD k.val []).length ≤ 2 := by decide +kernel
  exact h ⟨k, hk⟩
end Go.Proofs.YtolkfhiominjbaaGreatDoor
namespace Go.Proofs.YtolkfhiominjbaaGreatDoor
open Go.RowKit Go.Lib
set_option maxRecDepth 100000
set_option maxHeartbeats 8000000
def Zero4 : Value := .tuple #[.agg #[.int .i64 0, .string ⟨#[]⟩, .int .i64 0, .int .i64 0], .bool false]
def Say4 (k : Int) (x : ByteArray) (a b : Int) : Value := .tuple #[.agg #[.int .i64 k, .string x, .int .i64 a, .int .i64 b], .bool true]
/-- A call that answers a place. -/
def Place (f : Nat) (s : List UInt8) (i r : Int) : Prop := ∀ W, Calls Tryz.prog f #[.string (ba' s), .int .i64 i] W fun e w' => e = .returned (.int .i64 r) ∧ Below W.heap.size W w'
def Tells (f : Nat) (args : Array Value) (b : Bool) : Prop := ∀ W, Calls Tryz.prog f args W fun e w' => e = .returned (.bool b) ∧ w' = W
theorem nx_bad (s : List UInt8) (i : Nat) (w : World) (HSK : Hid (∀ W, Calls Tryz.prog 15 #[.string (ba' s), .int .i64 (i : Nat)] W fun e w' => e = .returned (.int .i64 (-1)) ∧ w' = W)) :
    Calls Tryz.prog 9 #[.string (ba' s), .int .i64 (i : Nat)] w fun e w' => e = .returned Zero4 ∧ Below w.heap.size w w' := by
  go_enter Tryz.func9, Tryz.ntmps9
  go_wp2_with fail
  refine (HSK.out _).mono ?_
  rintro e w1 ⟨rfl, rfl⟩
  have HB2 : Hid (Below w.heap.size w (w.alloc (.cells #[.int .i64 0, .string ⟨#[]⟩, .int .i64 0, .int .i64 0] 25))) := Lib.hid (ba (Below.refl _ _))
  go_wp2
  refine bodyPost_ret (v := Zero4) ?_ rfl ⟨rfl, ?_⟩
  · unfold Zero4
    simp [results, Tryz.results9, go_sem, *]
  · have hbz := HB2.out
    repeat (with_reducible (first | assumption | exact ba (Below.refl _ _) | (refine bs ?_ (by simp))))
theorem nx_end (s : List UInt8) (i j : Nat) (_hs : s.length ≤ 65536) (hj : j = s.length) (w : World) (HSK : Hid (∀ W, Calls Tryz.prog 15 #[.string (ba' s), .int .i64 (i : Nat)] W fun e w' => e = .returned (.int .i64 (j : Nat)) ∧ w' = W))
    (_h : True) :
    Calls Tryz.prog 9 #[.string (ba' s), .int .i64 (i : Nat)] w fun e w' => e = .returned (Say4 0 ⟨#[]⟩ (j : Int) (j : Int)) ∧ Below w.heap.size w w' := by
  have s1 : (ba' s).size = s.length := size_ba s
  have k0 : decide ((j : Int) < 0) = false := by simp
  have gE : ((j : Int) == (s.length : Int)) = true := by rw [beq_iff_eq]; omega
  have gE' : (j == s.length) = true := by rw [beq_iff_eq]; omega
  clear hj
  go_enter Tryz.func9, Tryz.ntmps9
  go_wp2_with fail
  refine (HSK.out _).mono ?_
  rintro e w1 ⟨rfl, rfl⟩
  have HB2 : Hid (Below w.heap.size w (w.alloc (.cells #[.int .i64 0, .string ⟨#[]⟩, .int .i64 0, .int .i64 0] 25))) := Lib.hid (ba (Below.refl _ _))
  go_wp2
  refine bodyPost_ret (v := Say4 0 ⟨#[]⟩ (j : Int) (j : Int)) ?_ rfl ⟨rfl, ?_⟩
  · unfold Say4
    simp [results, Tryz.results9, go_sem, *]
  · have hbz := HB2.out
    repeat (with_reducible (first | assumption | exact ba (Below.refl _ _) | (refine bs ?_ (by simp))))
theorem nx_name0 (s : List UInt8) (i j : Nat) (_hs : s.length ≤ 65536) (hj : j < s.length) (w : World) (HSK : Hid (∀ W, Calls Tryz.prog 15 #[.string (ba' s), .int .i64 (i : Nat)] W fun e w' => e = .returned (.int .i64 (j : Nat)) ∧ w' = W))
    (E : Nat) (x : List UInt8) (hE : j < E) (hEl : E ≤ s.length) (HNM : Hid (Place 16 s j E)) (HAT : Hid (Tells 17 #[.string (ba' s), .int .i64 (E : Nat), .string ⟨#[58]⟩] false)) (hx : (ba' s).extract j E = ba' x) :
    Calls Tryz.prog 9 #[.string (ba' s), .int .i64 (i : Nat)] w fun e w' => e = .returned (Say4 1 (ba' x) (j : Int) (E : Int)) ∧ Below w.heap.size w w' := by
  have s1 : (ba' s).size = s.length := size_ba s
  have k0 : decide ((j : Int) < 0) = false := by simp
  have gE : ((j : Int) == (s.length : Int)) = false := by rw [beq_eq_false_iff_ne]; omega
  have gE' : (j == s.length) = false := by rw [beq_eq_false_iff_ne]; omega
  have g0 : decide ((j : Int) < (E : Int)) = true := by simp; omega
  have g0' : decide ((E : Int) > (j : Int)) = true := by simp; omega
  go_enter Tryz.func9, Tryz.ntmps9
  go_wp2_with fail
  refine (HSK.out _).mono ?_
  rintro e w1 ⟨rfl, rfl⟩
  go_wp2_with fail
  refine (HNM.out _).mono ?_
  rintro e w2 ⟨rfl, hb2⟩
  have HB2 : Hid (Below w.heap.size w w2) := Lib.hid (bt (ba (ba (Below.refl _ _))) hb2)
  have T0 : Hid (Tok4 w2 w.heap.size (.int .i64 0) (.string ⟨#[]⟩) (.int .i64 0) (.int .i64 0)) := Lib.hid (Tok4.below ⟨by simp, by simp, by simp, by simp, fun o => by simp, by simp <;> omega⟩ hb2)
  have T1 : Hid (Tok4 w2 (w.heap.size + 1) (.int .i64 0) (.string ⟨#[]⟩) (.int .i64 (j : Nat)) (.int .i64 0)) := Lib.hid (Tok4.below ⟨by simp, by simp, by simp, by simp, fun o => by simp, by simp <;> omega⟩ hb2)
  clear hb2
  obtain ⟨a0, a1, a2, a3, af, az⟩ := T0.out
  obtain ⟨b0, b1, b2, b3, bf, bz⟩ := T1.out
  go_wp2_with fail
  refine (HAT.out _).mono ?_
  rintro e w3 ⟨rfl, rfl⟩
  go_wp2
  refine bodyPost_ret (v := Say4 1 (ba' x) (j : Int) (E : Int)) ?_ rfl ⟨rfl, ?_⟩
  · unfold Say4
    simp [results, Tryz.results9, go_sem, *]
  · have hbz := HB2.out
    repeat (with_reducible (first | assumption | exact ba (Below.refl _ _) | (refine bs ?_ (by simp))))
theorem nx_name1 (s : List UInt8) (i j : Nat) (hs : s.length ≤ 65536) (hj : j < s.length) (w : World) (HSK : Hid (∀ W, Calls Tryz.prog 15 #[.string (ba' s), .int .i64 (i : Nat)] W fun e w' => e = .returned (.int .i64 (j : Nat)) ∧ w' = W))
    (E : Nat) (x : List UInt8) (hE : j < E) (hEl : E ≤ s.length) (HNM : Hid (Place 16 s j E)) (HAT : Hid (Tells 17 #[.string (ba' s), .int .i64 (E : Nat), .string ⟨#[58]⟩] true)) (F : Nat) (hF : E + 1 = F) (hFl : F ≤ s.length) (HN2 : Hid (Place 16 s ((E : Int) + 1) F)) (hx : (ba' s).extract j E = ba' x) :
    Calls Tryz.prog 9 #[.string (ba' s), .int .i64 (i : Nat)] w fun e w' => e = .returned (Say4 1 (ba' x) (j : Int) (E : Int)) ∧ Below w.heap.size w w' := by
  have s1 : (ba' s).size = s.length := size_ba s
  have k0 : decide ((j : Int) < 0) = false := by simp
  have gE : ((j : Int) == (s.length : Int)) = false := by rw [beq_eq_false_iff_ne]; omega
  have gE' : (j == s.length) = false := by rw [beq_eq_false_iff_ne]; omega
  have g0 : decide ((j : Int) < (E : Int)) = true := by simp; omega
  have g0' : decide ((E : Int) > (j : Int)) = true := by simp; omega
  have g1 : decide ((E : Int) + 1 < (F : Int)) = false := by simp; omega
  have g1' : decide ((F : Int) > ((E : Int) + 1)) = false := by simp; omega
  go_enter Tryz.func9, Tryz.ntmps9
  go_wp2_with fail
  refine (HSK.out _).mono ?_
  rintro e w1 ⟨rfl, rfl⟩
  go_wp2_with fail
  refine (HNM.out _).mono ?_
  rintro e w2 ⟨rfl, hb2⟩
  have HB2 : Hid (Below w.heap.size w w2) := Lib.hid (bt (ba (ba (Below.refl _ _))) hb2)
  have T0 : Hid (Tok4 w2 w.heap.size (.int .i64 0) (.string ⟨#[]⟩) (.int .i64 0) (.int .i64 0)) := Lib.hid (Tok4.below ⟨by simp, by simp, by simp, by simp, fun o => by simp, by simp <;> omega⟩ hb2)
  have T1 : Hid (Tok4 w2 (w.heap.size + 1) (.int .i64 0) (.string ⟨#[]⟩) (.int .i64 (j : Nat)) (.int .i64 0)) := Lib.hid (Tok4.below ⟨by simp, by simp, by simp, by simp, fun o => by simp, by simp <;> omega⟩ hb2)
  clear hb2
  obtain ⟨a0, a1, a2, a3, af, az⟩ := T0.out
  obtain ⟨b0, b1, b2, b3, bf, bz⟩ := T1.out
  go_wp2_with fail
  refine (HAT.out _).mono ?_
  rintro e w3 ⟨rfl, rfl⟩
  go_wp2_with fail
  refine (HN2.out _).mono ?_
  rintro e w4 ⟨rfl, hb4⟩
  have HB4 : Hid (Below w.heap.size w w4) := Lib.hid (bt (bs HB2.out (by simp)) hb4)
  have U0 := Lib.hid ((Tok4.other (o := 0) (.int .i64 1) (show w.heap.size + 1 ≠ w.heap.size by omega) T0.out).below hb4)
  have U1 := Lib.hid ((Tok4.set0 (.int .i64 1) T1.out).below hb4)
  clear hb4 a0 a1 a2 a3 af az b0 b1 b2 b3 bf bz T0 T1
  obtain ⟨a0, a1, a2, a3, af, az⟩ := U0.out
  obtain ⟨b0, b1, b2, b3, bf, bz⟩ := U1.out
  go_wp2
  refine bodyPost_ret (v := Say4 1 (ba' x) (j : Int) (E : Int)) ?_ rfl ⟨rfl, ?_⟩
  · unfold Say4
    simp [results, Tryz.results9, go_sem, *]
  · have hbz := HB4.out
    repeat (with_reducible (first | assumption | exact ba (Below.refl _ _) | (refine bs ?_ (by simp))))
theorem nx_name2 (s : List UInt8) (i j : Nat) (hs : s.length ≤ 65536) (hj : j < s.length) (w : World) (HSK : Hid (∀ W, Calls Tryz.prog 15 #[.string (ba' s), .int .i64 (i : Nat)] W fun e w' => e = .returned (.int .i64 (j : Nat)) ∧ w' = W))
    (E : Nat) (x : List UInt8) (hE : j < E) (hEl : E ≤ s.length) (HNM : Hid (Place 16 s j E)) (HAT : Hid (Tells 17 #[.string (ba' s), .int .i64 (E : Nat), .string ⟨#[58]⟩] true)) (F : Nat) (hF : E + 1 < F) (hFl : F ≤ s.length) (HN2 : Hid (Place 16 s ((E : Int) + 1) F)) (hx : (ba' s).extract j F = ba' x) :
    Calls Tryz.prog 9 #[.string (ba' s), .int .i64 (i : Nat)] w fun e w' => e = .returned (Say4 1 (ba' x) (j : Int) (F : Int)) ∧ Below w.heap.size w w' := by
  have s1 : (ba' s).size = s.length := size_ba s
  have k0 : decide ((j : Int) < 0) = false := by simp
  have gE : ((j : Int) == (s.length : Int)) = false := by rw [beq_eq_false_iff_ne]; omega
  have gE' : (j == s.length) = false := by rw [beq_eq_false_iff_ne]; omega
  have g0 : decide ((j : Int) < (E : Int)) = true := by simp; omega
  have g0' : decide ((E : Int) > (j : Int)) = true := by simp; omega
  have g1 : decide ((E : Int) + 1 < (F : Int)) = true := by simp; omega
  have g1' : decide ((F : Int) > ((E : Int) + 1)) = true := by simp; omega
  go_enter Tryz.func9, Tryz.ntmps9
  go_wp2_with fail
  refine (HSK.out _).mono ?_
  rintro e w1 ⟨rfl, rfl⟩
  go_wp2_with fail
  refine (HNM.out _).mono ?_
  rintro e w2 ⟨rfl, hb2⟩
  have HB2 : Hid (Below w.heap.size w w2) := Lib.hid (bt (ba (ba (Below.refl _ _))) hb2)
  have T0 : Hid (Tok4 w2 w.heap.size (.int .i64 0) (.string ⟨#[]⟩) (.int .i64 0) (.int .i64 0)) := Lib.hid (Tok4.below ⟨by simp, by simp, by simp, by simp, fun o => by simp, by simp <;> omega⟩ hb2)
  have T1 : Hid (Tok4 w2 (w.heap.size + 1) (.int .i64 0) (.string ⟨#[]⟩) (.int .i64 (j : Nat)) (.int .i64 0)) := Lib.hid (Tok4.below ⟨by simp, by simp, by simp, by simp, fun o => by simp, by simp <;> omega⟩ hb2)
  clear hb2
  obtain ⟨a0, a1, a2, a3, af, az⟩ := T0.out
  obtain ⟨b0, b1, b2, b3, bf, bz⟩ := T1.out
  go_wp2_with fail
  refine (HAT.out _).mono ?_
  rintro e w3 ⟨rfl, rfl⟩
  go_wp2_with fail
  refine (HN2.out _).mono ?_
  rintro e w4 ⟨rfl, hb4⟩
  have HB4 : Hid (Below w.heap.size w w4) := Lib.hid (bt (bs HB2.out (by simp)) hb4)
  have U0 := Lib.hid ((Tok4.other (o := 0) (.int .i64 1) (show w.heap.size + 1 ≠ w.heap.size by omega) T0.out).below hb4)
  have U1 := Lib.hid ((Tok4.set0 (.int .i64 1) T1.out).below hb4)
  clear hb4 a0 a1 a2 a3 af az b0 b1 b2 b3 bf bz T0 T1
  go_wp2_with fail
  refine (HN2.out _).mono ?_
  rintro e w5 ⟨rfl, hb5⟩
  have HB5 : Hid (Below w.heap.size w w5) := Lib.hid (bt HB4.out hb5)
  have T0 := Lib.hid (U0.out.below hb5)
  have T1 := Lib.hid (U1.out.below hb5)
  clear hb5 U0 U1
  obtain ⟨a0, a1, a2, a3, af, az⟩ := T0.out
  obtain ⟨b0, b1, b2, b3, bf, bz⟩ := T1.out
  go_wp2
  refine bodyPost_ret (v := Say4 1 (ba' x) (j : Int) (F : Int)) ?_ rfl ⟨rfl, ?_⟩
  · unfold Say4
    simp [results, Tryz.results9, go_sem, *]
  · have hbz := HB5.out
    repeat (with_reducible (first | assumption | exact ba (Below.refl _ _) | (refine bs ?_ (by simp))))
theorem nx_var0 (s : List UInt8) (i j : Nat) (hs : s.length ≤ 65536) (hj : j < s.length) (w : World) (HSK : Hid (∀ W, Calls Tryz.prog 15 #[.string (ba' s), .int .i64 (i : Nat)] W fun e w' => e = .returned (.int .i64 (j : Nat)) ∧ w' = W))
    (c : UInt8) (hc : s[j]'hj = c) (h36 : ((c.toNat : Int) == 36) = true) (HNM : Hid (Place 16 s j j)) (F : Nat) (hF : j + 1 = F) (hFl : F ≤ s.length) (HN2 : Hid (Place 16 s ((j : Int) + 1) F)) (x : List UInt8) (_hx : (ba' s).extract (j + 1) F = ba' x) :
    Calls Tryz.prog 9 #[.string (ba' s), .int .i64 (i : Nat)] w fun e w' => e = .returned (Zero4) ∧ Below w.heap.size w w' := by
  have s1 : (ba' s).size = s.length := size_ba s
  have k0 : decide ((j : Int) < 0) = false := by simp
  have gE : ((j : Int) == (s.length : Int)) = false := by rw [beq_eq_false_iff_ne]; omega
  have gE' : (j == s.length) = false := by rw [beq_eq_false_iff_ne]; omega
  have g0 : decide ((j : Int) < (j : Int)) = false := by simp
  have g0' : decide ((j : Int) > (j : Int)) = false := by simp
  have hj' : j < (ba' s).size := by omega
  have ec : (ba' s)[j]'hj' = c := hc
  have g2 : ((F : Int) == (j : Int) + 1) = true := by rw [beq_iff_eq]; omega
  have g2' : (F == j + 1) = true := by rw [beq_iff_eq]; omega
  go_enter Tryz.func9, Tryz.ntmps9
  go_wp2_with fail
  refine (HSK.out _).mono ?_
  rintro e w1 ⟨rfl, rfl⟩
  go_wp2_with fail
  refine (HNM.out _).mono ?_
  rintro e w2 ⟨rfl, hb2⟩
  have HB2 : Hid (Below w.heap.size w w2) := Lib.hid (bt (ba (ba (Below.refl _ _))) hb2)
  have T0 : Hid (Tok4 w2 w.heap.size (.int .i64 0) (.string ⟨#[]⟩) (.int .i64 0) (.int .i64 0)) := Lib.hid (Tok4.below ⟨by simp, by simp, by simp, by simp, fun o => by simp, by simp <;> omega⟩ hb2)
  have T1 : Hid (Tok4 w2 (w.heap.size + 1) (.int .i64 0) (.string ⟨#[]⟩) (.int .i64 (j : Nat)) (.int .i64 0)) := Lib.hid (Tok4.below ⟨by simp, by simp, by simp, by simp, fun o => by simp, by simp <;> omega⟩ hb2)
  clear hb2
  go_wp2_with fail
  refine (HN2.out _).mono ?_
  rintro e w4 ⟨rfl, hb4⟩
  have HB4 : Hid (Below w.heap.size w w4) := Lib.hid (bt HB2.out hb4)
  have U0 := Lib.hid (T0.out.below hb4)
  have U1 := Lib.hid (T1.out.below hb4)
  clear hb4 T0 T1
  obtain ⟨a0, a1, a2, a3, af, az⟩ := U0.out
  obtain ⟨b0, b1, b2, b3, bf, bz⟩ := U1.out
  go_wp2
  refine bodyPost_ret (v := Zero4) ?_ rfl ⟨rfl, ?_⟩
  · unfold Zero4
    simp [results, Tryz.results9, go_sem, *]
  · have hbz := HB4.out
    repeat (with_reducible (first | assumption | exact ba (Below.refl _ _) | (refine bs ?_ (by simp))))
theorem nx_var1 (s : List UInt8) (i j : Nat) (hs : s.length ≤ 65536) (hj : j < s.length) (w : World) (HSK : Hid (∀ W, Calls Tryz.prog 15 #[.string (ba' s), .int .i64 (i : Nat)] W fun e w' => e = .returned (.int .i64 (j : Nat)) ∧ w' = W))
    (c : UInt8) (hc : s[j]'hj = c) (h36 : ((c.toNat : Int) == 36) = true) (HNM : Hid (Place 16 s j j)) (F : Nat) (hF : j + 1 < F) (hFl : F ≤ s.length) (HN2 : Hid (Place 16 s ((j : Int) + 1) F)) (x : List UInt8) (hx : (ba' s).extract (j + 1) F = ba' x) :
    Calls Tryz.prog 9 #[.string (ba' s), .int .i64 (i : Nat)] w fun e w' => e = .returned (Say4 2 (ba' x) (j : Int) (F : Int)) ∧ Below w.heap.size w w' := by
  have s1 : (ba' s).size = s.length := size_ba s
  have k0 : decide ((j : Int) < 0) = false := by simp
  have gE : ((j : Int) == (s.length : Int)) = false := by rw [beq_eq_false_iff_ne]; omega
  have gE' : (j == s.length) = false := by rw [beq_eq_false_iff_ne]; omega
  have g0 : decide ((j : Int) < (j : Int)) = false := by simp
  have g0' : decide ((j : Int) > (j : Int)) = false := by simp
  have hj' : j < (ba' s).size := by omega
  have ec : (ba' s)[j]'hj' = c := hc
  have g2 : ((F : Int) == (j : Int) + 1) = false := by rw [beq_eq_false_iff_ne]; omega
  have g2' : (F == j + 1) = false := by rw [beq_eq_false_iff_ne]; omega
  go_enter Tryz.func9, Tryz.ntmps9
  go_wp2_with fail
  refine (HSK.out _).mono ?_
  rintro e w1 ⟨rfl, rfl⟩
  go_wp2_with fail
  refine (HNM.out _).mono ?_
  rintro e w2 ⟨rfl, hb2⟩
  have HB2 : Hid (Below w.heap.size w w2) := Lib.hid (bt (ba (ba (Below.refl _ _))) hb2)
  have T0 : Hid (Tok4 w2 w.heap.size (.int .i64 0) (.string ⟨#[]⟩) (.int .i64 0) (.int .i64 0)) := Lib.hid (Tok4.below ⟨by simp, by simp, by simp, by simp, fun o => by simp, by simp <;> omega⟩ hb2)
  have T1 : Hid (Tok4 w2 (w.heap.size + 1) (.int .i64 0) (.string ⟨#[]⟩) (.int .i64 (j : Nat)) (.int .i64 0)) := Lib.hid (Tok4.below ⟨by simp, by simp, by simp, by simp, fun o => by simp, by simp <;> omega⟩ hb2)
  clear hb2
  go_wp2_with fail
  refine (HN2.out _).mono ?_
  rintro e w4 ⟨rfl, hb4⟩
  have HB4 : Hid (Below w.heap.size w w4) := Lib.hid (bt HB2.out hb4)
  have U0 := Lib.hid (T0.out.below hb4)
  have U1 := Lib.hid (T1.out.below hb4)
  clear hb4 T0 T1
  obtain ⟨a0, a1, a2, a3, af, az⟩ := U0.out
  obtain ⟨b0, b1, b2, b3, bf, bz⟩ := U1.out
  go_wp2
  refine bodyPost_ret (v := Say4 2 (ba' x) (j : Int) (F : Int)) ?_ rfl ⟨rfl, ?_⟩
  · unfold Say4
    simp [results, Tryz.results9, go_sem, *]
  · have hbz := HB4.out
    repeat (with_reducible (first | assumption | exact ba (Below.refl _ _) | (refine bs ?_ (by simp))))
theorem nx_quo0 (s : List UInt8) (i j : Nat) (hs : s.length ≤ 65536) (hj : j < s.length) (w : World) (HSK : Hid (∀ W, Calls Tryz.prog 15 #[.string (ba' s), .int .i64 (i : Nat)] W fun e w' => e = .returned (.int .i64 (j : Nat)) ∧ w' = W))
    (c : UInt8) (hc : s[j]'hj = c) (h36 : ((c.toNat : Int) == 36) = false) (q : Bool) (h34 : ((c.toNat : Int) == 34) = q) (h39 : q = false → ((c.toNat : Int) == 39) = true) (HNM : Hid (Place 16 s j j)) (hx1 : (ba' s).extract j (j + 1) = ba' [c]) (HPC : Hid (∀ W, Calls Tryz.prog 18 #[.string (ba' s), .int .i64 ((j : Int) + 1), .string (ba' [c]), .string ⟨#[]⟩, .bool false] W fun e w' => (e = .returned (.tuple #[.string ⟨#[]⟩, .bool false, .int .i64 (-1)])) ∧ Below W.heap.size W w')) :
    Calls Tryz.prog 9 #[.string (ba' s), .int .i64 (i : Nat)] w fun e w' => e = .returned (Zero4) ∧ Below w.heap.size w w' := by
  have s1 : (ba' s).size = s.length := size_ba s
  have k0 : decide ((j : Int) < 0) = false := by simp
  have gE : ((j : Int) == (s.length : Int)) = false := by rw [beq_eq_false_iff_ne]; omega
  have gE' : (j == s.length) = false := by rw [beq_eq_false_iff_ne]; omega
  have g0 : decide ((j : Int) < (j : Int)) = false := by simp
  have g0' : decide ((j : Int) > (j : Int)) = false := by simp
  have hj' : j < (ba' s).size := by omega
  have ec : (ba' s)[j]'hj' = c := hc
  cases q with
  | true =>
    clear h39
    go_enter Tryz.func9, Tryz.ntmps9
    go_wp2_with fail
    refine (HSK.out _).mono ?_
    rintro e w1 ⟨rfl, rfl⟩
    go_wp2_with fail
    refine (HNM.out _).mono ?_
    rintro e w2 ⟨rfl, hb2⟩
    have HB2 : Hid (Below w.heap.size w w2) := Lib.hid (bt (ba (ba (Below.refl _ _))) hb2)
    have T0 : Hid (Tok4 w2 w.heap.size (.int .i64 0) (.string ⟨#[]⟩) (.int .i64 0) (.int .i64 0)) := Lib.hid (Tok4.below ⟨by simp, by simp, by simp, by simp, fun o => by simp, by simp <;> omega⟩ hb2)
    have T1 : Hid (Tok4 w2 (w.heap.size + 1) (.int .i64 0) (.string ⟨#[]⟩) (.int .i64 (j : Nat)) (.int .i64 0)) := Lib.hid (Tok4.below ⟨by simp, by simp, by simp, by simp, fun o => by simp, by simp <;> omega⟩ hb2)
    clear hb2
    go_wp2_with fail
    refine (HPC.out _).mono ?_
    rintro e w4 ⟨rfl, hb4⟩
    have HB4 : Hid (Below w.heap.size w w4) := Lib.hid (bt HB2.out hb4)
    have U0 := Lib.hid (T0.out.below hb4)
    have U1 := Lib.hid (T1.out.below hb4)
    clear hb4 T0 T1
    obtain ⟨a0, a1, a2, a3, af, az⟩ := U0.out
    obtain ⟨b0, b1, b2, b3, bf, bz⟩ := U1.out
    go_wp2
    refine bodyPost_ret (v := Zero4) ?_ rfl ⟨rfl, ?_⟩
    · unfold Zero4
      simp [results, Tryz.results9, go_sem, *]
    · have hbz := HB4.out
      repeat (with_reducible (first | assumption | exact ba (Below.refl _ _) | (refine bs ?_ (by simp))))
  | false =>
    have h39 := h39 rfl
    go_enter Tryz.func9, Tryz.ntmps9
    go_wp2_with fail
    refine (HSK.out _).mono ?_
    rintro e w1 ⟨rfl, rfl⟩
    go_wp2_with fail
    refine (HNM.out _).mono ?_
    rintro e w2 ⟨rfl, hb2⟩
    have HB2 : Hid (Below w.heap.size w w2) := Lib.hid (bt (ba (ba (Below.refl _ _))) hb2)
    have T0 : Hid (Tok4 w2 w.heap.size (.int .i64 0) (.string ⟨#[]⟩) (.int .i64 0) (.int .i64 0)) := Lib.hid (Tok4.below ⟨by simp, by simp, by simp, by simp, fun o => by simp, by simp <;> omega⟩ hb2)
    have T1 : Hid (Tok4 w2 (w.heap.size + 1) (.int .i64 0) (.string ⟨#[]⟩) (.int .i64 (j : Nat)) (.int .i64 0)) := Lib.hid (Tok4.below ⟨by simp, by simp, by simp, by simp, fun o => by simp, by simp <;> omega⟩ hb2)
    clear hb2
    go_wp2_with fail
    refine (HPC.out _).mono ?_
    rintro e w4 ⟨rfl, hb4⟩
    have HB4 : Hid (Below w.heap.size w w4) := Lib.hid (bt HB2.out hb4)
    have U0 := Lib.hid (T0.out.below hb4)
    have U1 := Lib.hid (T1.out.below hb4)
    clear hb4 T0 T1
    obtain ⟨a0, a1, a2, a3, af, az⟩ := U0.out
    obtain ⟨b0, b1, b2, b3, bf, bz⟩ := U1.out
    go_wp2
    refine bodyPost_ret (v := Zero4) ?_ rfl ⟨rfl, ?_⟩
    · unfold Zero4
      simp [results, Tryz.results9, go_sem, *]
    · have hbz := HB4.out
      repeat (with_reducible (first | assumption | exact ba (Below.refl _ _) | (refine bs ?_ (by simp))))
theorem nx_quo1 (s : List UInt8) (i j : Nat) (hs : s.length ≤ 65536) (hj : j < s.length) (w : World) (HSK : Hid (∀ W, Calls Tryz.prog 15 #[.string (ba' s), .int .i64 (i : Nat)] W fun e w' => e = .returned (.int .i64 (j : Nat)) ∧ w' = W))
    (c : UInt8) (hc : s[j]'hj = c) (h36 : ((c.toNat : Int) == 36) = false) (q : Bool) (h34 : ((c.toNat : Int) == 34) = q) (h39 : q = false → ((c.toNat : Int) == 39) = true) (HNM : Hid (Place 16 s j j)) (hx1 : (ba' s).extract j (j + 1) = ba' [c]) (x : List UInt8) (F : Nat) (hF : F = s.length) (HPC : Hid (∀ W, Calls Tryz.prog 18 #[.string (ba' s), .int .i64 ((j : Int) + 1), .string (ba' [c]), .string ⟨#[]⟩, .bool false] W fun e w' => (∃ b, e = .returned (.tuple #[.string (ba' x), .bool b, .int .i64 (F : Int)])) ∧ Below W.heap.size W w')) :
    Calls Tryz.prog 9 #[.string (ba' s), .int .i64 (i : Nat)] w fun e w' => e = .returned (Zero4) ∧ Below w.heap.size w w' := by
  have s1 : (ba' s).size = s.length := size_ba s
  have k0 : decide ((j : Int) < 0) = false := by simp
  have gE : ((j : Int) == (s.length : Int)) = false := by rw [beq_eq_false_iff_ne]; omega
  have gE' : (j == s.length) = false := by rw [beq_eq_false_iff_ne]; omega
  have g0 : decide ((j : Int) < (j : Int)) = false := by simp
  have g0' : decide ((j : Int) > (j : Int)) = false := by simp
  have hj' : j < (ba' s).size := by omega
  have ec : (ba' s)[j]'hj' = c := hc
  have g2 : ((F : Int) == (s.length : Int)) = true := by rw [beq_iff_eq]; omega
  have g2' : (F == s.length) = true := by rw [beq_iff_eq]; omega
  have k1 : decide ((F : Int) < 0) = false := by simp
  cases q with
  | true =>
    clear h39
    go_enter Tryz.func9, Tryz.ntmps9
    go_wp2_with fail
    refine (HSK.out _).mono ?_
    rintro e w1 ⟨rfl, rfl⟩
    go_wp2_with fail
    refine (HNM.out _).mono ?_
    rintro e w2 ⟨rfl, hb2⟩
    have HB2 : Hid (Below w.heap.size w w2) := Lib.hid (bt (ba (ba (Below.refl _ _))) hb2)
    have T0 : Hid (Tok4 w2 w.heap.size (.int .i64 0) (.string ⟨#[]⟩) (.int .i64 0) (.int .i64 0)) := Lib.hid (Tok4.below ⟨by simp, by simp, by simp, by simp, fun o => by simp, by simp <;> omega⟩ hb2)
    have T1 : Hid (Tok4 w2 (w.heap.size + 1) (.int .i64 0) (.string ⟨#[]⟩) (.int .i64 (j : Nat)) (.int .i64 0)) := Lib.hid (Tok4.below ⟨by simp, by simp, by simp, by simp, fun o => by simp, by simp <;> omega⟩ hb2)
    clear hb2
    go_wp2_with fail
    refine (HPC.out _).mono ?_
    rintro e w4 ⟨⟨b, rfl⟩, hb4⟩
    have HB4 : Hid (Below w.heap.size w w4) := Lib.hid (bt HB2.out hb4)
    have U0 := Lib.hid (T0.out.below hb4)
    have U1 := Lib.hid (T1.out.below hb4)
    clear hb4 T0 T1
    obtain ⟨a0, a1, a2, a3, af, az⟩ := U0.out
    obtain ⟨b0, b1, b2, b3, bf, bz⟩ := U1.out
    go_wp2
    refine bodyPost_ret (v := Zero4) ?_ rfl ⟨rfl, ?_⟩
    · unfold Zero4
      simp [results, Tryz.results9, go_sem, *]
    · have hbz := HB4.out
      repeat (with_reducible (first | assumption | exact ba (Below.refl _ _) | (refine bs ?_ (by simp))))
  | false =>
    have h39 := h39 rfl
    go_enter Tryz.func9, Tryz.ntmps9
    go_wp2_with fail
    refine (HSK.out _).mono ?_
    rintro e w1 ⟨rfl, rfl⟩
    go_wp2_with fail
    refine (HNM.out _).mono ?_
    rintro e w2 ⟨rfl, hb2⟩
    have HB2 : Hid (Below w.heap.size w w2) := Lib.hid (bt (ba (ba (Below.refl _ _))) hb2)
    have T0 : Hid (Tok4 w2 w.heap.size (.int .i64 0) (.string ⟨#[]⟩) (.int .i64 0) (.int .i64 0)) := Lib.hid (Tok4.below ⟨by simp, by simp, by simp, by simp, fun o => by simp, by simp <;> omega⟩ hb2)
    have T1 : Hid (Tok4 w2 (w.heap.size + 1) (.int .i64 0) (.string ⟨#[]⟩) (.int .i64 (j : Nat)) (.int .i64 0)) := Lib.hid (Tok4.below ⟨by simp, by simp, by simp, by simp, fun o => by simp, by simp <;> omega⟩ hb2)
    clear hb2
    go_wp2_with fail
    refine (HPC.out _).mono ?_
    rintro e w4 ⟨⟨b, rfl⟩, hb4⟩
    have HB4 : Hid (Below w.heap.size w w4) := Lib.hid (bt HB2.out hb4)
    have U0 := Lib.hid (T0.out.below hb4)
    have U1 := Lib.hid (T1.out.below hb4)
    clear hb4 T0 T1
    obtain ⟨a0, a1, a2, a3, af, az⟩ := U0.out
    obtain ⟨b0, b1, b2, b3, bf, bz⟩ := U1.out
    go_wp2
    refine bodyPost_ret (v := Zero4) ?_ rfl ⟨rfl, ?_⟩
    · unfold Zero4
      simp [results, Tryz.results9, go_sem, *]
    · have hbz := HB4.out
      repeat (with_reducible (first | assumption | exact ba (Below.refl _ _) | (refine bs ?_ (by simp))))
theorem nx_quo2 (s : List UInt8) (i j : Nat) (hs : s.length ≤ 65536) (hj : j < s.length) (w : World) (HSK : Hid (∀ W, Calls Tryz.prog 15 #[.string (ba' s), .int .i64 (i : Nat)] W fun e w' => e = .returned (.int .i64 (j : Nat)) ∧ w' = W))
    (c : UInt8) (hc : s[j]'hj = c) (h36 : ((c.toNat : Int) == 36) = false) (q : Bool) (h34 : ((c.toNat : Int) == 34) = q) (h39 : q = false → ((c.toNat : Int) == 39) = true) (HNM : Hid (Place 16 s j j)) (hx1 : (ba' s).extract j (j + 1) = ba' [c]) (x : List UInt8) (F : Nat) (hF : F < s.length) (HPC : Hid (∀ W, Calls Tryz.prog 18 #[.string (ba' s), .int .i64 ((j : Int) + 1), .string (ba' [c]), .string ⟨#[]⟩, .bool false] W fun e w' => (∃ b, e = .returned (.tuple #[.string (ba' x), .bool b, .int .i64 (F : Int)])) ∧ Below W.heap.size W w')) :
    Calls Tryz.prog 9 #[.string (ba' s), .int .i64 (i : Nat)] w fun e w' => e = .returned (Say4 5 (ba' x) (j : Int) ((F : Int) + 1)) ∧ Below w.heap.size w w' := by
  have s1 : (ba' s).size = s.length := size_ba s
  have k0 : decide ((j : Int) < 0) = false := by simp
  have gE : ((j : Int) == (s.length : Int)) = false := by rw [beq_eq_false_iff_ne]; omega
  have gE' : (j == s.length) = false := by rw [beq_eq_false_iff_ne]; omega
  have g0 : decide ((j : Int) < (j : Int)) = false := by simp
  have g0' : decide ((j : Int) > (j : Int)) = false := by simp
  have hj' : j < (ba' s).size := by omega
  have ec : (ba' s)[j]'hj' = c := hc
  have g2 : ((F : Int) == (s.length : Int)) = false := by rw [beq_eq_false_iff_ne]; omega
  have g2' : (F == s.length) = false := by rw [beq_eq_false_iff_ne]; omega
  have k1 : decide ((F : Int) < 0) = false := by simp
  cases q with
  | true =>
    clear h39
    go_enter Tryz.func9, Tryz.ntmps9
    go_wp2_with fail
    refine (HSK.out _).mono ?_
    rintro e w1 ⟨rfl, rfl⟩
    go_wp2_with fail
    refine (HNM.out _).mono ?_
    rintro e w2 ⟨rfl, hb2⟩
    have HB2 : Hid (Below w.heap.size w w2) := Lib.hid (bt (ba (ba (Below.refl _ _))) hb2)
    have T0 : Hid (Tok4 w2 w.heap.size (.int .i64 0) (.string ⟨#[]⟩) (.int .i64 0) (.int .i64 0)) := Lib.hid (Tok4.below ⟨by simp, by simp, by simp, by simp, fun o => by simp, by simp <;> omega⟩ hb2)
    have T1 : Hid (Tok4 w2 (w.heap.size + 1) (.int .i64 0) (.string ⟨#[]⟩) (.int .i64 (j : Nat)) (.int .i64 0)) := Lib.hid (Tok4.below ⟨by simp, by simp, by simp, by simp, fun o => by simp, by simp <;> omega⟩ hb2)
    clear hb2
    go_wp2_with fail
    refine (HPC.out _).mono ?_
    rintro e w4 ⟨⟨b, rfl⟩, hb4⟩
    have HB4 : Hid (Below w.heap.size w w4) := Lib.hid (bt HB2.out hb4)
    have U0 := Lib.hid (T0.out.below hb4)
    have U1 := Lib.hid (T1.out.below hb4)
    clear hb4 T0 T1
    obtain ⟨a0, a1, a2, a3, af, az⟩ := U0.out
    obtain ⟨b0, b1, b2, b3, bf, bz⟩ := U1.out
    go_wp2
    refine bodyPost_ret (v := Say4 5 (ba' x) (j : Int) ((F : Int) + 1)) ?_ rfl ⟨rfl, ?_⟩
    · unfold Say4
      simp [results, Tryz.results9, go_sem, *]
    · have hbz := HB4.out
      repeat (with_reducible (first | assumption | exact ba (Below.refl _ _) | (refine bs ?_ (by simp))))
  | false =>
    have h39 := h39 rfl
    go_enter Tryz.func9, Tryz.ntmps9
    go_wp2_with fail
    refine (HSK.out _).mono ?_
    rintro e w1 ⟨rfl, rfl⟩
    go_wp2_with fail
    refine (HNM.out _).mono ?_
    rintro e w2 ⟨rfl, hb2⟩
    have HB2 : Hid (Below w.heap.size w w2) := Lib.hid (bt (ba (ba (Below.refl _ _))) hb2)
    have T0 : Hid (Tok4 w2 w.heap.size (.int .i64 0) (.string ⟨#[]⟩) (.int .i64 0) (.int .i64 0)) := Lib.hid (Tok4.below ⟨by simp, by simp, by simp, by simp, fun o => by simp, by simp <;> omega⟩ hb2)
    have T1 : Hid (Tok4 w2 (w.heap.size + 1) (.int .i64 0) (.string ⟨#[]⟩) (.int .i64 (j : Nat)) (.int .i64 0)) := Lib.hid (Tok4.below ⟨by simp, by simp, by simp, by simp, fun o => by simp, by simp <;> omega⟩ hb2)
    clear hb2
    go_wp2_with fail
    refine (HPC.out _).mono ?_
    rintro e w4 ⟨⟨b, rfl⟩, hb4⟩
    have HB4 : Hid (Below w.heap.size w w4) := Lib.hid (bt HB2.out hb4)
    have U0 := Lib.hid (T0.out.below hb4)
    have U1 := Lib.hid (T1.out.below hb4)
    clear hb4 T0 T1
    obtain ⟨a0, a1, a2, a3, af, az⟩ := U0.out
    obtain ⟨b0, b1, b2, b3, bf, bz⟩ := U1.out
    go_wp2
    refine bodyPost_ret (v := Say4 5 (ba' x) (j : Int) ((F : Int) + 1)) ?_ rfl ⟨rfl, ?_⟩
    · unfold Say4
      simp [results, Tryz.results9, go_sem, *]
    · have hbz := HB4.out
      repeat (with_reducible (first | assumption | exact ba (Below.refl _ _) | (refine bs ?_ (by simp))))
end Go.Proofs.YtolkfhiominjbaaGreatDoor
