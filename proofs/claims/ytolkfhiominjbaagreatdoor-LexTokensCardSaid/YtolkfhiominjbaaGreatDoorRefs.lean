/- References and pieces of text in general. No condition beyond what the theorems state. -/
import Derived.Test.YtolkfhiominjbaaGreatDoorUint
import Derived.Test.YtolkfhiominjbaaGreatDoorPieces
import Derived.Test.YtolkfhiominjbaaGreatDoorAwake
import Derived.Lib.IfaceEq
namespace Go.Proofs.YtolkfhiominjbaaGreatDoor
open Go.RowKit Go.Lib
set_option maxRecDepth 100000
set_option maxHeartbeats 8000000
def IsIface (v : Value) : Prop := v = .nilIface ∨ ∃ t p, v = .iface t p
/-- What the library's variables hold: the two tables, some number, two errors. -/
def Env (w : World) : Prop := tabs w ∧ (∃ v : Int, w.cell? ⟨2, 0, none⟩ = some (.int .i64 v)) ∧ (∃ v, w.cell? ⟨3, 0, none⟩ = some v ∧ IsIface v) ∧ (∃ v, w.cell? ⟨4, 0, none⟩ = some v ∧ IsIface v)
theorem Env.below {w w' : World} (h : Env w) (hb : Below w.heap.size w w') : Env w' := by
  obtain ⟨h1, ⟨v2, h2⟩, ⟨v3, h3, i3⟩, ⟨v4, h4, i4⟩⟩ := h
  exact ⟨Utf8Tabs_below h1 hb, ⟨v2, (hb.cell (p := ⟨2, 0, none⟩) (World.block_lt_of_cell? w _ h2)).trans h2⟩, ⟨v3, (hb.cell (p := ⟨3, 0, none⟩) (World.block_lt_of_cell? w _ h3)).trans h3, i3⟩, ⟨v4, (hb.cell (p := ⟨4, 0, none⟩) (World.block_lt_of_cell? w _ h4)).trans h4, i4⟩⟩
theorem pu_inner (b : Nat) (hb : b = 10 ∨ b = 16) (l : List UInt8) (hl : l.length ≤ 100000) (w : World) : Calls Tryz.prog 93 #[.string (ba' l), .int .i64 (b : Int), .int .i64 31] w fun e w' => PuPost (parseU b l) e ∧ Below w.heap.size w w' := by
  unfold parseU
  by_cases h : l = []
  · subst h
    rw [if_pos rfl]
    exact pu_empty _ w
  · rw [if_neg h]
    rcases hb with rfl | rfl
    · exact pu_10 l h hl w
    · exact pu_16 l h hl w
theorem pu_some (b v : Nat) (hb : b = 10 ∨ b = 16) (l : List UInt8) (hl : l.length ≤ 100000) (h : parseU b l = some v) (w : World) : Calls Tryz.prog 81 #[.string (ba' l), .int .i64 (b : Int), .int .i64 31] w fun e w' => e = .returned (.tuple #[.int .u64 (v : Int), .nilIface]) ∧ Below w.heap.size w w' := by
  have H := pu_inner b hb l hl w
  rw [h] at H
  have HI := Lib.hid H
  clear H h
  go_enter Tryz.func81, Tryz.ntmps81
  go_wp2_with fail
  refine HI.out.mono ?_
  rintro e w1 ⟨he, hb1⟩
  obtain rfl : e = _ := he
  have HB1 := Lib.hid hb1
  clear hb1
  go_wp2
  go_ret2
  exact ⟨rfl, HB1.out⟩
theorem pu_none (b : Nat) (hb : b = 10 ∨ b = 16) (l : List UInt8) (hl : l.length ≤ 100000) (h : parseU b l = none) (w : World) (hE : Env w) : Calls Tryz.prog 81 #[.string (ba' l), .int .i64 (b : Int), .int .i64 31] w fun e w' => (∃ x t p, e = .returned (.tuple #[.int .u64 x, .iface t p])) ∧ Below w.heap.size w w' := by
  have H := pu_inner b hb l hl w
  rw [h] at H
  have HI := Lib.hid H
  have HE := Lib.hid hE
  clear H h hE
  go_enter Tryz.func81, Tryz.ntmps81
  go_wp2_with fail
  refine HI.out.mono ?_
  rintro e w1 ⟨⟨x, k, rfl, hk⟩, hb1⟩
  have HB1 := Lib.hid hb1
  obtain ⟨_, _, ⟨v3, h3, i3⟩, ⟨v4, h4, i4⟩⟩ := HE.out.below hb1
  have HS3 := Lib.hid (⟨h3, i3⟩ : _ ∧ _)
  have HS4 := Lib.hid (⟨h4, i4⟩ : _ ∧ _)
  clear hb1 h3 i3 h4 i4
  rcases hk with rfl | rfl
  · go_wp2_with fail
    refine (Tryz.strconv_toError_range _ (ba' l) _ _ v4 w1 (by rw [size_ba]; omega) HS4.out.1 HS4.out.2).mono ?_
    rintro e w2 ⟨N, rfl, _, _, hb2⟩
    have HB2 := Lib.hid (bt HB1.out hb2)
    clear hb2
    go_wp2
    go_ret2
    exact ⟨⟨_, _, _, rfl⟩, HB2.out⟩
  · go_wp2_with fail
    refine (Tryz.strconv_toError_syntax _ (ba' l) _ _ v3 w1 (by rw [size_ba]; omega) HS3.out.1 HS3.out.2).mono ?_
    rintro e w2 ⟨N, rfl, _, _, hb2⟩
    have HB2 := Lib.hid (bt HB1.out hb2)
    clear hb2
    go_wp2
    go_ret2
    exact ⟨⟨_, _, _, rfl⟩, HB2.out⟩
/-- The character of a number in some base. -/
def numF (b : Nat) (l : List UInt8) : Option (List UInt8) := (parseU b l).bind fun n => if xmlB n = true then some (encU n) else none
def OPost (r : Option (List UInt8)) (e : Ending) : Prop := e = .returned (.tuple #[.string (ba' (r.getD [])), .bool r.isSome])
theorem parse_le : ∀ (b : Nat) (l : List UInt8) (n v : Nat), n ≤ 2147483647 → puGo b l n = some v → v ≤ 2147483647
  | b, [], n, v, hn, h => by simp [puGo] at h; omega
  | b, c :: t, n, v, hn, h => by
    unfold puGo at h
    split at h
    · cases h
    · split at h
      · cases h
      · exact parse_le b t _ v (by omega) h
theorem parseU_le {b v : Nat} {l : List UInt8} (h : parseU b l = some v) : v ≤ 2147483647 := by
  unfold parseU at h
  split at h
  · cases h
  · exact parse_le b l 0 v (by omega) h
theorem numbered_any (b : Nat) (hb : b = 10 ∨ b = 16) (l : List UInt8) (hl : l.length ≤ 100000) (w : World) (hE : Env w) : Calls Tryz.prog 70 #[.string (ba' l), .int .i64 (b : Int)] w fun e w' => OPost (numF b l) e ∧ Below w.heap.size w w' := by
  cases hp : parseU b l with
  | none =>
    have H := Lib.hid (pu_none b hb l hl hp w hE)
    have HF : Hid (numF b l = none) := Lib.hid (by unfold numF; rw [hp]; rfl)
    clear hp hE
    go_enter Tryz.func70, Tryz.ntmps70
    go_wp2_with fail
    refine H.out.mono ?_
    rintro e w1 ⟨⟨x, t, p, rfl⟩, hb1⟩
    have HB1 := Lib.hid hb1
    clear hb1
    go_wp2
    go_ret2
    exact ⟨by rw [HF.out]; rfl, HB1.out⟩
  | some v =>
    have H := Lib.hid (pu_some b v hb l hl hp w)
    have hv := parseU_le hp
    have hw1 : IntKind.i64.wrap (v : Int) = v := by rw [IntKind.wrap_i64]; omega
    cases hx : xmlB (v : Int) with
    | false =>
      have HF : Hid (numF b l = none) := Lib.hid (by unfold numF; rw [hp]; simp [hx])
      have HT : Hid (∀ (g : Nat) (W : World), W.cell? ⟨g, 0, none⟩ = some (.int .i64 (v : Int)) → Calls Tryz.prog 82 #[.slice (some ⟨g, 0, none⟩) 1 1] W fun e w' => e = .returned (.tuple #[.string ⟨#[]⟩, .int .i64 2]) ∧ Below W.heap.size W w') := Lib.hid fun g W h => text_no v hx g W h
      clear hp hE hx
      go_enter Tryz.func70, Tryz.ntmps70
      go_wp2_with fail
      refine H.out.mono ?_
      rintro e w1 ⟨rfl, hb1⟩
      have HB1 := Lib.hid hb1
      clear hb1
      go_wp2_with fail
      refine (HT.out w1.heap.size _ (by simp)).mono ?_
      rintro e w2 ⟨rfl, hb2⟩
      have HB2 := Lib.hid (bt (ba HB1.out) hb2)
      clear hb2
      go_wp2
      go_ret2
      exact ⟨by rw [HF.out]; rfl, HB2.out⟩
    | true =>
      have HF : Hid (numF b l = some (encU v)) := Lib.hid (by unfold numF; rw [hp]; simp [hx])
      have HT : Hid (∀ (g : Nat) (W : World), W.cell? ⟨g, 0, none⟩ = some (.int .i64 (v : Int)) → Calls Tryz.prog 82 #[.slice (some ⟨g, 0, none⟩) 1 1] W fun e w' => e = .returned (.tuple #[.string (ba' (encU v)), .int .i64 0]) ∧ Below W.heap.size W w') := Lib.hid fun g W h => text_ok v hx g W h
      clear hp hE hx
      go_enter Tryz.func70, Tryz.ntmps70
      go_wp2_with fail
      refine H.out.mono ?_
      rintro e w1 ⟨rfl, hb1⟩
      have HB1 := Lib.hid hb1
      clear hb1
      go_wp2_with fail
      refine (HT.out w1.heap.size _ (by simp)).mono ?_
      rintro e w2 ⟨rfl, hb2⟩
      have HB2 := Lib.hid (bt (ba HB1.out) hb2)
      clear hb2
      go_wp2
      go_ret2
      exact ⟨by rw [HF.out]; rfl, HB2.out⟩
end Go.Proofs.YtolkfhiominjbaaGreatDoor
namespace Go.Proofs.YtolkfhiominjbaaGreatDoor
open Go.RowKit Go.Lib
set_option maxRecDepth 100000
set_option maxHeartbeats 8000000
def meanH : List UInt8 → Option (List UInt8)
  | [] => none
  | a :: r => if a = 35 then (match r with
    | [] => numF 10 []
    | c :: t => if c = 120 then numF 16 t else numF 10 r) else none
def meanF (l : List UInt8) : Option (List UInt8) :=
  if l = [108, 116] then some [60] else if l = [103, 116] then some [62] else if l = [97, 109, 112] then some [38] else if l = [113, 117, 111, 116] then some [34] else if l = [97, 112, 111, 115] then some [39] else meanH l
theorem eq_no' {l m : List UInt8} (h : l ≠ m) : ((ba' l).toList == m) = false := by rw [toList_ba]; simpa using h
theorem pre_yes (a : UInt8) (r : List UInt8) : Lib.hasPrefix (ba' (a :: r)).data.toList (⟨#[a]⟩ : ByteArray).data.toList = true := by
  show Lib.hasPrefix (a :: r) [a] = true
  simp [Lib.hasPrefix]
theorem pre_no (a c : UInt8) (r : List UInt8) (h : c ≠ a) : Lib.hasPrefix (ba' (c :: r)).data.toList (⟨#[a]⟩ : ByteArray).data.toList = false := by
  show Lib.hasPrefix (c :: r) [a] = false
  simp [Lib.hasPrefix, List.isPrefixOf]
  exact fun e => h e.symm
theorem pre_nil (a : UInt8) : Lib.hasPrefix (ba' []).data.toList (⟨#[a]⟩ : ByteArray).data.toList = false := rfl
theorem trim_yes (a : UInt8) (r : List UInt8) : (⟨(Lib.trimPrefix (ba' (a :: r)).data.toList (⟨#[a]⟩ : ByteArray).data.toList).toArray⟩ : ByteArray) = ba' r := by
  unfold Lib.trimPrefix
  rw [pre_yes]
  rfl
theorem trim_no (a : UInt8) (l : List UInt8) (h : Lib.hasPrefix (ba' l).data.toList (⟨#[a]⟩ : ByteArray).data.toList = false) : (⟨(Lib.trimPrefix (ba' l).data.toList (⟨#[a]⟩ : ByteArray).data.toList).toArray⟩ : ByteArray) = ba' l := by
  unfold Lib.trimPrefix
  rw [h]
  rfl
theorem meaning_any (l : List UInt8) (hl : l.length ≤ 100000) (w : World) (hE : Env w) : Calls Tryz.prog 55 #[.string (ba' l)] w fun e w' => OPost (meanF l) e ∧ Below w.heap.size w w' := by
  by_cases h1 : l = [108, 116]
  · subst h1
    clear hE
    have g1 : ((ba' [108, 116]).toList == [108, 116]) = true := by rw [toList_ba]; rfl
    go_enter Tryz.func55, Tryz.ntmps55
    go_wp2
    go_ret2
    exact ⟨rfl, Below.refl _ _⟩
  by_cases h2 : l = [103, 116]
  · subst h2
    clear hE
    have g1 : ((ba' [103, 116]).toList == [108, 116]) = false := by rw [toList_ba]; rfl
    have g2 : ((ba' [103, 116]).toList == [103, 116]) = true := by rw [toList_ba]; rfl
    go_enter Tryz.func55, Tryz.ntmps55
    go_wp2
    go_ret2
    exact ⟨rfl, Below.refl _ _⟩
  by_cases h3 : l = [97, 109, 112]
  · subst h3
    clear hE
    have g1 : ((ba' [97, 109, 112]).toList == [108, 116]) = false := by rw [toList_ba]; rfl
    have g2 : ((ba' [97, 109, 112]).toList == [103, 116]) = false := by rw [toList_ba]; rfl
    have g3 : ((ba' [97, 109, 112]).toList == [97, 109, 112]) = true := by rw [toList_ba]; rfl
    go_enter Tryz.func55, Tryz.ntmps55
    go_wp2
    go_ret2
    exact ⟨rfl, Below.refl _ _⟩
  by_cases h4 : l = [113, 117, 111, 116]
  · subst h4
    clear hE
    have g1 : ((ba' [113, 117, 111, 116]).toList == [108, 116]) = false := by rw [toList_ba]; rfl
    have g2 : ((ba' [113, 117, 111, 116]).toList == [103, 116]) = false := by rw [toList_ba]; rfl
    have g3 : ((ba' [113, 117, 111, 116]).toList == [97, 109, 112]) = false := by rw [toList_ba]; rfl
    have g4 : ((ba' [113, 117, 111, 116]).toList == [113, 117, 111, 116]) = true := by rw [toList_ba]; rfl
    go_enter Tryz.func55, Tryz.ntmps55
    go_wp2
    go_ret2
    exact ⟨rfl, Below.refl _ _⟩
  by_cases h5 : l = [97, 112, 111, 115]
  · subst h5
    clear hE
    have g1 : ((ba' [97, 112, 111, 115]).toList == [108, 116]) = false := by rw [toList_ba]; rfl
    have g2 : ((ba' [97, 112, 111, 115]).toList == [103, 116]) = false := by rw [toList_ba]; rfl
    have g3 : ((ba' [97, 112, 111, 115]).toList == [97, 109, 112]) = false := by rw [toList_ba]; rfl
    have g4 : ((ba' [97, 112, 111, 115]).toList == [113, 117, 111, 116]) = false := by rw [toList_ba]; rfl
    have g5 : ((ba' [97, 112, 111, 115]).toList == [97, 112, 111, 115]) = true := by rw [toList_ba]; rfl
    go_enter Tryz.func55, Tryz.ntmps55
    go_wp2
    go_ret2
    exact ⟨rfl, Below.refl _ _⟩
  have g1 := eq_no' h1
  have g2 := eq_no' h2
  have g3 := eq_no' h3
  have g4 := eq_no' h4
  have g5 := eq_no' h5
  have hM : meanF l = meanH l := by
    unfold meanF
    rw [if_neg h1, if_neg h2, if_neg h3, if_neg h4, if_neg h5]
  clear h1 h2 h3 h4 h5
  have HE := Lib.hid hE
  clear hE
  rcases l with _ | ⟨a, r⟩
  · have HM := Lib.hid hM
    have e1 := pre_nil 35
    clear hM
    go_enter Tryz.func55, Tryz.ntmps55
    go_wp2_with fail
    refine (Tryz.strings_CutPrefix (ba' []) ⟨#[35]⟩ w).mono ?_
    rintro e w1 ⟨rfl, rfl⟩
    rw [e1]
    go_wp2
    go_ret2
    exact ⟨by rw [HM.out]; rfl, Below.refl _ _⟩
  by_cases ha : a = 35
  · subst ha
    have e1 := pre_yes 35 r
    have t1 := trim_yes 35 r
    rcases r with _ | ⟨c, t⟩
    · have HM : Hid (meanF [35] = numF 10 []) := Lib.hid hM
      have HN := Lib.hid (numbered_any 10 (.inl rfl) [] (by simp) w HE.out)
      have e2 := pre_nil 120
      have t2 := trim_no 120 [] e2
      clear hM
      go_enter Tryz.func55, Tryz.ntmps55
      go_wp2_with fail
      refine (Tryz.strings_CutPrefix (ba' [35]) ⟨#[35]⟩ w).mono ?_
      rintro e w1 ⟨rfl, rfl⟩
      rw [e1, t1]
      go_wp2_with fail
      refine (Tryz.strings_CutPrefix (ba' []) ⟨#[120]⟩ w1).mono ?_
      rintro e w2 ⟨rfl, rfl⟩
      rw [e2, t2]
      go_wp2_with fail
      refine HN.out.mono ?_
      rintro e w3 ⟨he, hb3⟩
      obtain rfl : e = _ := he
      have HB3 := Lib.hid hb3
      clear hb3
      rw [← HM.out]
      go_wp2
      go_ret2
      exact ⟨rfl, HB3.out⟩
    · by_cases hc : c = 120
      · subst hc
        have HM : Hid (meanF (35 :: 120 :: t) = numF 16 t) := Lib.hid (by rw [hM]; simp [meanH])
        have HN := Lib.hid (numbered_any 16 (.inr rfl) t (by simp at hl; omega) w HE.out)
        have e2 := pre_yes 120 t
        have t2 := trim_yes 120 t
        clear hM
        go_enter Tryz.func55, Tryz.ntmps55
        go_wp2_with fail
        refine (Tryz.strings_CutPrefix (ba' (35 :: 120 :: t)) ⟨#[35]⟩ w).mono ?_
        rintro e w1 ⟨rfl, rfl⟩
        rw [e1, t1]
        go_wp2_with fail
        refine (Tryz.strings_CutPrefix (ba' (120 :: t)) ⟨#[120]⟩ w1).mono ?_
        rintro e w2 ⟨rfl, rfl⟩
        rw [e2, t2]
        go_wp2_with fail
        refine HN.out.mono ?_
        rintro e w3 ⟨he, hb3⟩
        obtain rfl : e = _ := he
        have HB3 := Lib.hid hb3
        clear hb3
        rw [← HM.out]
        go_wp2
        go_ret2
        exact ⟨rfl, HB3.out⟩
      · have HM : Hid (meanF (35 :: c :: t) = numF 10 (c :: t)) := Lib.hid (by rw [hM]; simp [meanH, hc])
        have HN := Lib.hid (numbered_any 10 (.inl rfl) (c :: t) (by simp at hl ⊢; omega) w HE.out)
        have e2 := pre_no 120 c t hc
        have t2 := trim_no 120 (c :: t) e2
        clear hM
        go_enter Tryz.func55, Tryz.ntmps55
        go_wp2_with fail
        refine (Tryz.strings_CutPrefix (ba' (35 :: c :: t)) ⟨#[35]⟩ w).mono ?_
        rintro e w1 ⟨rfl, rfl⟩
        rw [e1, t1]
        go_wp2_with fail
        refine (Tryz.strings_CutPrefix (ba' (c :: t)) ⟨#[120]⟩ w1).mono ?_
        rintro e w2 ⟨rfl, rfl⟩
        rw [e2, t2]
        go_wp2_with fail
        refine HN.out.mono ?_
        rintro e w3 ⟨he, hb3⟩
        obtain rfl : e = _ := he
        have HB3 := Lib.hid hb3
        clear hb3
        rw [← HM.out]
        go_wp2
        go_ret2
        exact ⟨rfl, HB3.out⟩
  · have HM : Hid (meanF (a :: r) = none) := Lib.hid (by rw [hM]; simp [meanH, ha])
    have e1 := pre_no 35 a r ha
    have t1 := trim_no 35 (a :: r) e1
    clear hM
    go_enter Tryz.func55, Tryz.ntmps55
    go_wp2_with fail
    refine (Tryz.strings_CutPrefix (ba' (a :: r)) ⟨#[35]⟩ w).mono ?_
    rintro e w1 ⟨rfl, rfl⟩
    rw [e1, t1]
    go_wp2
    go_ret2
    exact ⟨by rw [HM.out]; rfl, Below.refl _ _⟩
/-- What a reference says whose & stands right ahead, and what is left behind it. -/
def cutF (l : List UInt8) : Option (List UInt8 × List UInt8) := if (Lib.cut l [59]).2.2 = true then (meanF (Lib.cut l [59]).1).map fun m => (m, (Lib.cut l [59]).2.1) else none
def CPost (r : Option (List UInt8 × List UInt8)) (e : Ending) : Prop := match r with
  | some (m, t) => e = .returned (.tuple #[.string (ba' m), .string (ba' t), .bool true])
  | none => e = .returned (.tuple #[.string ⟨#[]⟩, .string ⟨#[]⟩, .bool false])
theorem cut_le (l : List UInt8) : (Lib.cut l [59]).1.length ≤ l.length := by
  unfold Lib.cut
  split
  · simp only [List.length_take]; exact Nat.min_le_right _ _
  · simp
theorem cutF_any (l : List UInt8) (hl : l.length ≤ 100000) (w : World) (hE : Env w) : Calls Tryz.prog 30 #[.string (ba' l)] w fun e w' => CPost (cutF l) e ∧ Below w.heap.size w w' := by
  obtain ⟨a, t, b, hc⟩ : ∃ a t b, Lib.cut l [59] = (a, t, b) := ⟨_, _, _, rfl⟩
  have hc' : Lib.cut (ba' l).data.toList (⟨#[59]⟩ : ByteArray).data.toList = (a, t, b) := hc
  have hal : a.length ≤ 100000 := by have := cut_le l; rw [hc] at this; simp only at this; omega
  obtain ⟨_, ⟨v, hm⟩, _⟩ := id hE
  have HC := Lib.hid (Tryz.strings_Cut (ba' l) ⟨#[59]⟩ v w (by rw [size_ba]; omega) hm)
  rw [hc'] at HC
  simp only at HC
  have HM : Hid (∀ W, Below w.heap.size w W → Calls Tryz.prog 55 #[.string (ba' a)] W fun e w' => OPost (meanF a) e ∧ Below W.heap.size W w') := Lib.hid fun W hW => meaning_any a hal W (hE.below hW)
  cases b with
  | false =>
    have HF : Hid (cutF l = none) := Lib.hid (by unfold cutF; rw [hc]; rfl)
    clear hc hc' hE hm HM
    go_enter Tryz.func30, Tryz.ntmps30
    go_wp2_with fail
    refine HC.out.mono ?_
    rintro e w1 ⟨rfl, nq, rfl⟩
    go_wp2
    go_ret3
    exact ⟨by rw [HF.out]; rfl, bd (Below.refl _ _)⟩
  | true =>
    have hF : cutF l = (meanF a).map fun m => (m, t) := by unfold cutF; rw [hc]; rfl
    cases hme : meanF a with
    | none =>
      have HF : Hid (cutF l = none) := Lib.hid (by rw [hF, hme]; rfl)
      rw [hme] at HM
      clear hc hc' hE hm hF hme
      go_enter Tryz.func30, Tryz.ntmps30
      go_wp2_with fail
      refine HC.out.mono ?_
      rintro e w1 ⟨rfl, nq, rfl⟩
      go_wp2_with fail
      refine (HM.out _ (bd (Below.refl _ _))).mono ?_
      rintro e w2 ⟨he, hb2⟩
      obtain rfl : e = _ := he
      have HB2 : Hid (Below w.heap.size w w2) := Lib.hid (bt (bd (Below.refl _ _)) hb2)
      clear hb2
      go_wp2
      go_ret3
      exact ⟨by rw [HF.out]; rfl, HB2.out⟩
    | some m =>
      have HF : Hid (cutF l = some (m, t)) := Lib.hid (by rw [hF, hme]; rfl)
      rw [hme] at HM
      clear hc hc' hE hm hF hme
      go_enter Tryz.func30, Tryz.ntmps30
      go_wp2_with fail
      refine HC.out.mono ?_
      rintro e w1 ⟨rfl, nq, rfl⟩
      go_wp2_with fail
      refine (HM.out _ (bd (Below.refl _ _))).mono ?_
      rintro e w2 ⟨he, hb2⟩
      obtain rfl : e = _ := he
      have HB2 : Hid (Below w.heap.size w w2) := Lib.hid (bt (bd (Below.refl _ _)) hb2)
      clear hb2
      go_wp2
      go_ret3
      exact ⟨by rw [HF.out]; rfl, HB2.out⟩
end Go.Proofs.YtolkfhiominjbaaGreatDoor
namespace Go.Proofs.YtolkfhiominjbaaGreatDoor
open Go.RowKit Go.Lib
set_option maxRecDepth 100000
set_option maxHeartbeats 8000000
def readF (q : UInt8) : Nat → List UInt8 → List UInt8 → Option (List UInt8 × List UInt8)
  | 0, _, _ => none
  | _ + 1, [], acc => some (acc, [])
  | f + 1, a :: t, acc =>
    if a = 38 then (match cutF t with
      | none => none
      | some (m, rest) => readF q f rest (acc ++ m))
    else if a = q then (match t with
      | [] => some (acc, [a])
      | b :: t' => if b = q then readF q f t' (acc ++ [q]) else some (acc, a :: b :: t'))
    else readF q f t (acc ++ [a])
theorem index_lt : ∀ (l : List UInt8), 0 ≤ Lib.index l [59] → (Lib.index l [59]).toNat + 1 ≤ l.length
  | [], h => by simp [Lib.index] at h
  | b :: l, h => by
    rw [Lib.index] at h ⊢
    by_cases h1 : ([59] : List UInt8).isPrefixOf (b :: l) = true
    · rw [if_pos h1]; simp
    · rw [if_neg h1] at h ⊢
      by_cases h2 : (Lib.index l [59] == -1) = true
      · rw [if_pos h2] at h; omega
      · rw [if_neg h2] at h ⊢
        have h3 : Lib.index l [59] ≠ -1 := by simpa using h2
        have := index_lt l (by omega)
        simp only [List.length_cons]
        omega
theorem encZ_len (x : Int) (_h0 : 0 ≤ x) (_h1 : x ≤ 1114111) : (encU x).length ≤ 4 := by
  unfold encU Lib.encodeRune Lib.encodeRuneZ
  repeat' split
  all_goals simp
theorem num_len {b : Nat} {l m : List UInt8} (h : numF b l = some m) : m.length ≤ 4 := by
  unfold numF at h
  cases hp : parseU b l with
  | none => rw [hp] at h; cases h
  | some v =>
    rw [hp] at h
    simp only [Option.bind_some] at h
    split at h
    · rename_i hx
      cases h
      obtain ⟨h0, h1⟩ := xml_bounds hx
      exact encZ_len _ (by omega) h1
    · cases h
theorem mean_len {l m : List UInt8} (h : meanF l = some m) : m.length ≤ 4 := by
  unfold meanF at h
  repeat' split at h
  any_goals (cases h; decide)
  unfold meanH at h
  repeat' split at h
  any_goals (cases h; done)
  all_goals exact num_len h
theorem cutF_len {l m t : List UInt8} (h : cutF l = some (m, t)) : t.length < l.length ∧ m.length ≤ 4 := by
  unfold cutF at h
  by_cases hc : (Lib.cut l [59]).2.2 = true
  · rw [if_pos hc] at h
    cases hm : meanF (Lib.cut l [59]).1 with
    | none => rw [hm] at h; cases h
    | some m' =>
      rw [hm] at h
      simp only [Option.map_some, Option.some.injEq, Prod.mk.injEq] at h
      obtain ⟨rfl, rfl⟩ := h
      refine ⟨?_, mean_len hm⟩
      unfold Lib.cut at hc ⊢
      by_cases hi : 0 ≤ Lib.index l [59]
      · rw [if_pos hi]
        have := index_lt l hi
        simp
        omega
      · rw [if_neg hi] at hc
        cases hc
  · rw [if_neg hc] at h; cases h
/-- More fuel changes nothing, once there is enough. -/
theorem readF_fuel (q : UInt8) : ∀ (f g : Nat) (l acc : List UInt8), l.length < f → l.length < g → readF q f l acc = readF q g l acc
  | 0, _, _, _, h, _ => absurd h (by omega)
  | _, 0, _, _, _, h => absurd h (by omega)
  | f + 1, g + 1, [], acc, _, _ => rfl
  | f + 1, g + 1, a :: t, acc, hf, hg => by
    simp only [List.length_cons] at hf hg
    unfold readF
    split
    · cases hc : cutF t with
      | none => rfl
      | some p =>
        obtain ⟨m, rest⟩ := p
        have := (cutF_len hc).1
        exact readF_fuel q f g rest _ (by omega) (by omega)
    · split
      · rcases t with _ | ⟨b, t'⟩
        · rfl
        · simp only
          split
          · simp only [List.length_cons] at hf hg
            exact readF_fuel q f g t' _ (by omega) (by omega)
          · rfl
      · exact readF_fuel q f g t _ (by omega) (by omega)
def RPost (r : Option (List UInt8 × List UInt8)) (e : Ending) : Prop := match r with
  | some (m, t) => e = .returned (.tuple #[.string (ba' m), .string (ba' t), .bool true])
  | none => e = .returned (.tuple #[.string ⟨#[]⟩, .string ⟨#[]⟩, .bool false])
theorem readF_any (q : UInt8) (hq : q = 34 ∨ q = 39) (txt : List UInt8) (hlen : txt.length ≤ 70000) (w : World) (hE : Env w) (r : Option (List UInt8 × List UInt8)) (hr : readF q (txt.length + 1) txt [] = r) :
    Calls Tryz.prog 20 #[.agg #[.string (ba' [q]), .string (ba' []), .bool false], .string (ba' txt)] w fun e w' => RPost r e ∧ Below w.heap.size w w' := by
  have HE := Lib.hid hE
  have HB0 : Hid (Lib.IsBuilder 65 5 (w.heap.size + 1) (w.heap.size + 1) [] ((w.alloc (.cells #[.string (ba' [q]), .string (ba' []), .bool false] 47)).alloc (.cells #[.pointer none, .slice none 0 0] 65))) := Lib.hid (by
    have := Lib.fresh_isBuilder 65 5 (w.alloc (.cells #[.string (ba' [q]), .string (ba' []), .bool false] 47))
    simpa using this)
  have HR := Lib.hid hr
  clear hr hE
  go_enter Tryz.func20, Tryz.ntmps20
  go_wp2
  go_loopw [5] (fun s5 wx => ∃ (l acc : List UInt8) (f : Nat), s5 = .string (ba' l) ∧ l.length ≤ txt.length ∧ acc.length + 4 * l.length ≤ 4 * txt.length ∧ l.length < f ∧ Hid (readF q f l acc = r) ∧ Hid (Lib.IsBuilder 65 5 (w.heap.size + 1) (w.heap.size + 1) (Lib.byteCells acc) wx) ∧ wx.cell? ⟨w.heap.size, 0, none⟩ = some (.string (ba' [q])) ∧ wx.cell? ⟨w.heap.size, 1, none⟩ = some (.string (ba' [])) ∧ wx.cell? ⟨w.heap.size, 2, none⟩ = some (.bool false) ∧ w.heap.size + 1 < wx.heap.size ∧ Below w.heap.size w wx) (fun s5 _ => sLen s5)
  case atStart => exact ⟨txt, [], txt.length + 1, rfl, Nat.le_refl _, by simp, by omega, HR, Lib.hid HB0.out, by simp, by simp, by simp, by simp, ba (ba (Below.refl _ _))⟩
  case round =>
    obtain ⟨l, acc, f, rfl, hl, hac, hf, HF, hI, x0, x1, x2, hz, hBW⟩ := hrel
    have HIB := Lib.hid hBW
    obtain ⟨f, rfl⟩ : ∃ f', f = f' + 1 := ⟨f - 1, by omega⟩
    rcases l with _ | ⟨a, X⟩
    · have HE2 : Hid (r = some (acc, [])) := Lib.hid HF.out.symm
      have hne : (ba' []).toList.isEmpty = true := by rw [toList_ba]; rfl
      clear HF
      go_wp2_with fail
      refine (Tryz.Builder_String_any (w.heap.size + 1) (w.heap.size + 1) acc wr hI.out (by omega)).mono ?_
      rintro e w1 ⟨rfl, hb1⟩
      have HB1 : Hid (Below w.heap.size w w1) := Lib.hid (HIB.out.trans (hb1.mono (by omega)))
      clear hb1
      go_wp2
      go_ret3
      refine ⟨?_, HB1.out⟩
      rw [HE2.out]
      rfl
    · have hne : (ba' (a :: X)).toList.isEmpty = false := by rw [toList_ba]; rfl
      have hsz := sz_cons a X
      have hXl : X.length ≤ 100000 := by simp only [List.length_cons] at hl; omega
      by_cases ha38 : a = 38
      · subst ha38
        have HEX : Hid ((ba' (38 :: X)).extract 1 (ba' (38 :: X)).size = ba' X) := Lib.hid (cut_drop (38 :: X) 1)
        have HCUT := Lib.hid (cutF_any X hXl wr (HE.out.below hBW))
        have g38 : (((38 : UInt8).toNat : Int) == 38) = true := rfl
        cases hcf : cutF X with
        | none =>
          have HN : Hid (r = none) := Lib.hid (by rw [← HF.out]; unfold readF; rw [if_pos rfl, hcf])
          rw [hcf] at HCUT
          clear HF hcf
          go_upto_region 6 with fail
          rw [at_cons]
          go_wp2_with fail
          rw [HEX.out]
          refine HCUT.out.mono ?_
          rintro e w1 ⟨he, hb1⟩
          obtain rfl : e = _ := he
          have HB1 : Hid (Below w.heap.size w w1) := Lib.hid (bt HIB.out hb1)
          clear hb1 x0 x1 x2
          go_wp2
          go_ret3
          exact ⟨by rw [HN.out]; rfl, HB1.out⟩
        | some p =>
          obtain ⟨m, rest⟩ := p
          obtain ⟨hrl, hml⟩ := cutF_len hcf
          have HN : Hid (readF q f rest (acc ++ m) = r) := Lib.hid (by rw [← HF.out]; conv => rhs; unfold readF; rw [if_pos rfl, hcf])
          rw [hcf] at HCUT
          have hXX : X.length < f := by simp only [List.length_cons] at hf; omega
          clear HF hcf
          go_upto_region 6 with fail
          rw [at_cons]
          go_wp2_with fail
          rw [HEX.out]
          refine HCUT.out.mono ?_
          rintro e w1 ⟨he, hb1⟩
          obtain rfl : e = _ := he
          have HI1 := Lib.hid (builder_carry hI.out hb1)
          have f1 := fun o => hb1.cell (p := ⟨w.heap.size, o, none⟩) (by simp only; omega)
          have x01 := (f1 0).trans x0
          have x11 := (f1 1).trans x1
          have x21 := (f1 2).trans x2
          have HB1 : Hid (Below w.heap.size w w1) := Lib.hid (bt HIB.out hb1)
          have z1 := Nat.lt_of_lt_of_le hz hb1.size
          clear hb1 x0 x1 x2 f1 HCUT
          go_wp2_with fail
          refine (write_any (w.heap.size + 1) (w.heap.size + 1) (Lib.byteCells acc) (ba' m) w1 HI1.out (by rw [byteCells_len, size_ba]; simp only [List.length_cons] at hac hl; omega) (by omega)).mono ?_
          rintro e w4 ⟨rfl, hI4, hb4⟩
          have HI4 : Hid (Lib.IsBuilder 65 5 (w.heap.size + 1) (w.heap.size + 1) (Lib.byteCells (acc ++ m)) w4) := Lib.hid (.inr (by
            have e1 : Lib.byteCells (acc ++ m) = Lib.byteCells acc ++ Lib.strCells (ba' m) := by rw [Lib.byteCells_append]; rfl
            rw [e1]; exact hI4))
          have f4 := fun o => hb4.cell (p := ⟨w.heap.size, o, none⟩) (by simp only; omega)
          have x04 := (f4 0).trans x01
          have x14 := (f4 1).trans x11
          have x24 := (f4 2).trans x21
          have HB4 : Hid (Below w.heap.size w w4) := Lib.hid (HB1.out.trans (hb4.mono (by omega)))
          have z4 : w.heap.size + 1 < w4.heap.size := Nat.lt_of_lt_of_le z1 hb4.size
          clear hI4 hb4 x01 x11 x21 f4
          go_wp2
          go_roundw
          case rel => exact ⟨rest, acc ++ m, f, rfl, by simp only [List.length_cons] at hl; omega, by simp only [List.length_append, List.length_cons] at hac ⊢; omega, by omega, HN, HI4, x04, x14, x24, z4, HB4.out⟩
          case measure => simp only [sLen, size_ba, List.length_cons]; omega
      · have g38 : ((a.toNat : Int) == 38) = false := nat_ne (b := 38) ha38
        have H1 := gives_unfold (has_none a)
        by_cases haq : a = q
        · subst haq
          have H2 := gives_unfold (has_same a)
          rcases X with _ | ⟨b, X'⟩
          · have HN : Hid (r = some (acc, [a])) := Lib.hid (by rw [← HF.out]; unfold readF; rw [if_neg ha38, if_pos rfl])
            have h2 : (ba' [a]).size = 1 := size_ba _
            clear HF
            go_upto_region 6 with fail
            rw [at_cons]
            go_wp2_with fail
            refine (H1.out.call _).mono ?_
            rintro e w1 ⟨rfl, hb1⟩
            have HI1 := Lib.hid (builder_carry hI.out hb1)
            have x01 := (hb1.cell (p := ⟨w.heap.size, 0, none⟩) (by simp only; omega)).trans x0
            have HB1 : Hid (Below w.heap.size w w1) := Lib.hid (bt HIB.out hb1)
            have z1 := Nat.lt_of_lt_of_le hz hb1.size
            clear hb1 x0 x1 x2
            go_wp2_with fail
            refine (H2.out.call _).mono ?_
            rintro e w2 ⟨rfl, hb2⟩
            have HI2 := Lib.hid (builder_carry HI1.out hb2)
            have HB2 : Hid (Below w.heap.size w w2) := Lib.hid (bt HB1.out hb2)
            have z2 := Nat.lt_of_lt_of_le z1 hb2.size
            clear hb2 x01
            go_wp2_with fail
            refine (Tryz.Builder_String_any (w.heap.size + 1) (w.heap.size + 1) acc w2 HI2.out (by omega)).mono ?_
            rintro e w3 ⟨rfl, hb3⟩
            have HB3 : Hid (Below w.heap.size w w3) := Lib.hid (HB2.out.trans (hb3.mono (by omega)))
            clear hb3
            go_wp2
            go_ret3
            refine ⟨?_, HB3.out⟩
            rw [HN.out]
            rfl
          · have h1 : 1 < (ba' (a :: b :: X')).size := by rw [size_ba]; simp
            by_cases hbq : b = a
            · subst hbq
              have HN : Hid (readF b f X' (acc ++ [b]) = r) := Lib.hid (by rw [← HF.out]; conv => rhs; unfold readF; rw [if_neg ha38, if_pos rfl]; simp)
              have HEX : Hid ((ba' (b :: b :: X')).extract 2 (ba' (b :: b :: X')).size = ba' X') := Lib.hid (cut_drop (b :: b :: X') 2)
              have h2 : ¬ (ba' (b :: b :: X')).size < 2 := by rw [size_ba]; simp
              have g1 : ((((ba' (b :: b :: X'))[1]'h1).toNat : Int) == (b.toNat : Int)) = true := by simp; rfl
              clear HF
              go_upto_region 6 with fail
              rw [at_cons]
              go_wp2_with fail
              refine (H1.out.call _).mono ?_
              rintro e w1 ⟨rfl, hb1⟩
              have HI1 := Lib.hid (builder_carry hI.out hb1)
              have f1 := fun o => hb1.cell (p := ⟨w.heap.size, o, none⟩) (by simp only; omega)
              have x01 := (f1 0).trans x0
              have x11 := (f1 1).trans x1
              have x21 := (f1 2).trans x2
              have HB1 : Hid (Below w.heap.size w w1) := Lib.hid (bt HIB.out hb1)
              have z1 := Nat.lt_of_lt_of_le hz hb1.size
              clear hb1 x0 x1 x2 f1
              go_wp2_with fail
              refine (H2.out.call _).mono ?_
              rintro e w2 ⟨rfl, hb2⟩
              have HI2 := Lib.hid (builder_carry HI1.out hb2)
              have f2 := fun o => hb2.cell (p := ⟨w.heap.size, o, none⟩) (by simp only; omega)
              have x02 := (f2 0).trans x01
              have x12 := (f2 1).trans x11
              have x22 := (f2 2).trans x21
              have HB2 : Hid (Below w.heap.size w w2) := Lib.hid (bt HB1.out hb2)
              have z2 := Nat.lt_of_lt_of_le z1 hb2.size
              clear hb2 x01 x11 x21 f2
              go_wp2_with fail
              refine (byte_any (w.heap.size + 1) (w.heap.size + 1) acc (b.toNat : Int) w2 HI2.out (by simp only [List.length_cons] at hac hl; omega) (by omega)).mono ?_
              rintro e w4 ⟨rfl, hI4, hb4⟩
              have HI4 : Hid (Lib.IsBuilder 65 5 (w.heap.size + 1) (w.heap.size + 1) (Lib.byteCells (acc ++ [b])) w4) := Lib.hid (.inr (by rw [byteCells_snoc]; exact hI4))
              have f4 := fun o => hb4.cell (p := ⟨w.heap.size, o, none⟩) (by simp only; omega)
              have x04 := (f4 0).trans x02
              have x14 := (f4 1).trans x12
              have x24 := (f4 2).trans x22
              have HB4 : Hid (Below w.heap.size w w4) := Lib.hid (HB2.out.trans (hb4.mono (by omega)))
              have z4 : w.heap.size + 1 < w4.heap.size := Nat.lt_of_lt_of_le z2 hb4.size
              clear hI4 hb4 x02 x12 x22 f4
              go_wp2
              rw [HEX.out]
              go_roundw
              case rel => exact ⟨X', acc ++ [b], f, rfl, by simp only [List.length_cons] at hl; omega, by simp only [List.length_append, List.length_cons, List.length_nil] at hac ⊢; omega, by simp only [List.length_cons] at hf; omega, HN, HI4, x04, x14, x24, z4, HB4.out⟩
              case measure => simp only [sLen, size_ba, List.length_cons]; omega
            · have HN : Hid (r = some (acc, a :: b :: X')) := Lib.hid (by rw [← HF.out]; unfold readF; rw [if_neg ha38, if_pos rfl]; simp [hbq])
              have g1 : ((((ba' (a :: b :: X'))[1]'h1).toNat : Int) == (a.toNat : Int)) = false := nat_ne hbq
              clear HF
              go_upto_region 6 with fail
              rw [at_cons]
              go_wp2_with fail
              refine (H1.out.call _).mono ?_
              rintro e w1 ⟨rfl, hb1⟩
              have HI1 := Lib.hid (builder_carry hI.out hb1)
              have f1 := fun o => hb1.cell (p := ⟨w.heap.size, o, none⟩) (by simp only; omega)
              have x01 := (f1 0).trans x0
              have x11 := (f1 1).trans x1
              have x21 := (f1 2).trans x2
              have HB1 : Hid (Below w.heap.size w w1) := Lib.hid (bt HIB.out hb1)
              have z1 := Nat.lt_of_lt_of_le hz hb1.size
              clear hb1 x0 x1 x2 f1
              go_wp2_with fail
              refine (H2.out.call _).mono ?_
              rintro e w2 ⟨rfl, hb2⟩
              have HI2 := Lib.hid (builder_carry HI1.out hb2)
              have f2 := fun o => hb2.cell (p := ⟨w.heap.size, o, none⟩) (by simp only; omega)
              have x02 := (f2 0).trans x01
              have x12 := (f2 1).trans x11
              have x22 := (f2 2).trans x21
              have HB2 : Hid (Below w.heap.size w w2) := Lib.hid (bt HB1.out hb2)
              have z2 := Nat.lt_of_lt_of_le z1 hb2.size
              clear hb2 x01 x11 x21 f2
              go_wp2_with fail
              refine (Tryz.Builder_String_any (w.heap.size + 1) (w.heap.size + 1) acc w2 HI2.out (by omega)).mono ?_
              rintro e w3 ⟨rfl, hb3⟩
              have HB3 : Hid (Below w.heap.size w w3) := Lib.hid (HB2.out.trans (hb3.mono (by omega)))
              clear hb3
              go_wp2
              go_ret3
              refine ⟨?_, HB3.out⟩
              rw [HN.out]
              rfl
        · have HN : Hid (readF q f X (acc ++ [a]) = r) := Lib.hid (by rw [← HF.out]; conv => rhs; unfold readF; rw [if_neg ha38, if_neg haq])
          have H2 := gives_unfold (has_other q a haq)
          have H3 := gives_unfold (says_no [q] [] (a.toNat : Int))
          have HEX : Hid ((ba' (a :: X)).extract 1 (ba' (a :: X)).size = ba' X) := Lib.hid (cut_drop (a :: X) 1)
          clear HF
          go_upto_region 6 with fail
          rw [at_cons]
          go_wp2_with fail
          refine (H1.out.call _).mono ?_
          rintro e w1 ⟨rfl, hb1⟩
          have HI1 := Lib.hid (builder_carry hI.out hb1)
          have f1 := fun o => hb1.cell (p := ⟨w.heap.size, o, none⟩) (by simp only; omega)
          have x01 := (f1 0).trans x0
          have x11 := (f1 1).trans x1
          have x21 := (f1 2).trans x2
          have HB1 : Hid (Below w.heap.size w w1) := Lib.hid (bt HIB.out hb1)
          have z1 := Nat.lt_of_lt_of_le hz hb1.size
          clear hb1 x0 x1 x2 f1
          go_wp2_with fail
          refine (H2.out.call _).mono ?_
          rintro e w2 ⟨rfl, hb2⟩
          have HI2 := Lib.hid (builder_carry HI1.out hb2)
          have f2 := fun o => hb2.cell (p := ⟨w.heap.size, o, none⟩) (by simp only; omega)
          have x02 := (f2 0).trans x01
          have x12 := (f2 1).trans x11
          have x22 := (f2 2).trans x21
          have HB2 : Hid (Below w.heap.size w w2) := Lib.hid (bt HB1.out hb2)
          have z2 := Nat.lt_of_lt_of_le z1 hb2.size
          clear hb2 x01 x11 x21 f2
          go_wp2_with fail
          refine (H3.out.call _).mono ?_
          rintro e w3 ⟨rfl, hb3⟩
          have HI3 := Lib.hid (builder_carry HI2.out hb3)
          have f3 := fun o => hb3.cell (p := ⟨w.heap.size, o, none⟩) (by simp only; omega)
          have x03 := (f3 0).trans x02
          have x13 := (f3 1).trans x12
          have x23 := (f3 2).trans x22
          have HB3 : Hid (Below w.heap.size w w3) := Lib.hid (bt HB2.out hb3)
          have z3 := Nat.lt_of_lt_of_le z2 hb3.size
          clear hb3 x02 x12 x22 f3
          go_wp2_with fail
          refine (byte_any (w.heap.size + 1) (w.heap.size + 1) acc (a.toNat : Int) w3 HI3.out (by simp only [List.length_cons] at hac hl; omega) (by omega)).mono ?_
          rintro e w4 ⟨rfl, hI4, hb4⟩
          have HI4 : Hid (Lib.IsBuilder 65 5 (w.heap.size + 1) (w.heap.size + 1) (Lib.byteCells (acc ++ [a])) w4) := Lib.hid (.inr (by rw [byteCells_snoc]; exact hI4))
          have f4 := fun o => hb4.cell (p := ⟨w.heap.size, o, none⟩) (by simp only; omega)
          have x04 := (f4 0).trans x03
          have x14 := (f4 1).trans x13
          have x24 := (f4 2).trans x23
          have HB4 : Hid (Below w.heap.size w w4) := Lib.hid (HB3.out.trans (hb4.mono (by omega)))
          have z4 : w.heap.size + 1 < w4.heap.size := Nat.lt_of_lt_of_le z3 hb4.size
          clear hI4 hb4 x03 x13 x23 f4
          go_wp2
          rw [HEX.out]
          go_roundw
          case rel => exact ⟨X, acc ++ [a], f, rfl, by simp only [List.length_cons] at hl; omega, by simp only [List.length_append, List.length_cons, List.length_nil] at hac ⊢; omega, by simp only [List.length_cons] at hf; omega, HN, HI4, x04, x14, x24, z4, HB4.out⟩
          case measure => simp only [sLen, size_ba, List.length_cons]; omega
end Go.Proofs.YtolkfhiominjbaaGreatDoor
