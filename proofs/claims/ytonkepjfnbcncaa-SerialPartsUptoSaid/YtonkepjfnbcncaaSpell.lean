/- The writer spells a text and writes a comment. No condition beyond what the theorems state. -/
import Derived.Test.YtonkepjfnbcncaaForms
namespace Go.Proofs.Ytonkepjfnbcncaa
open Go.RowKit Go.Lib
set_option maxRecDepth 100000
set_option maxHeartbeats 8000000
theorem inText_any (c : UInt8) (w : World) : Calls Try.prog 14 #[.int .u8 (c.toNat : Int)] w fun e w' => e = .returned (.string (ba' (refT c))) ∧ w' = w := by
  have h38 : (c = 38) = (c.toNat = 38) := by rw [← UInt8.toNat_inj]; rfl
  have h60 : (c = 60) = (c.toNat = 60) := by rw [← UInt8.toNat_inj]; rfl
  have h62 : (c = 62) = (c.toNat = 62) := by rw [← UInt8.toNat_inj]; rfl
  have h13 : (c = 13) = (c.toNat = 13) := by rw [← UInt8.toNat_inj]; rfl
  have hr : refT c = if c.toNat = 38 then [38, 97, 109, 112, 59] else if c.toNat = 60 then [38, 108, 116, 59] else if c.toNat = 62 then [38, 103, 116, 59] else if c.toNat = 13 then [38, 35, 49, 51, 59] else [] := by
    unfold refT; simp only [h38, h60, h62, h13]
  rw [hr]
  obtain ⟨n, hn⟩ : ∃ n, c.toNat = n := ⟨_, rfl⟩
  rw [hn]
  clear hr hn h38 h60 h62 h13
  go_enter Try.func14, Try.ntmps14
  by_cases a0 : n = 38
  · subst a0
    go_wp2
    go_ret
    exact ⟨rfl, rfl⟩
  · have b0 : ((n : Int) == 38) = false := by simp; omega
    by_cases a1 : n = 60
    · subst a1
      go_wp2
      go_ret
      exact ⟨rfl, rfl⟩
    · have b1 : ((n : Int) == 60) = false := by simp; omega
      by_cases a2 : n = 62
      · subst a2
        go_wp2
        go_ret
        exact ⟨rfl, rfl⟩
      · have b2 : ((n : Int) == 62) = false := by simp; omega
        by_cases a3 : n = 13
        · subst a3
          go_wp2
          go_ret
          exact ⟨rfl, rfl⟩
        · have b3 : ((n : Int) == 13) = false := by simp; omega
          go_wp2
          go_ret
          exact ⟨rfl, rfl⟩
theorem inValue_any (c : UInt8) (w : World) : Calls Try.prog 17 #[.int .u8 (c.toNat : Int)] w fun e w' => e = .returned (.string (ba' (refV c))) ∧ w' = w := by
  have h38 : (c = 38) = (c.toNat = 38) := by rw [← UInt8.toNat_inj]; rfl
  have h60 : (c = 60) = (c.toNat = 60) := by rw [← UInt8.toNat_inj]; rfl
  have h34 : (c = 34) = (c.toNat = 34) := by rw [← UInt8.toNat_inj]; rfl
  have h9 : (c = 9) = (c.toNat = 9) := by rw [← UInt8.toNat_inj]; rfl
  have h10 : (c = 10) = (c.toNat = 10) := by rw [← UInt8.toNat_inj]; rfl
  have h13 : (c = 13) = (c.toNat = 13) := by rw [← UInt8.toNat_inj]; rfl
  have hr : refV c = if c.toNat = 38 then [38, 97, 109, 112, 59] else if c.toNat = 60 then [38, 108, 116, 59] else if c.toNat = 34 then [38, 113, 117, 111, 116, 59] else if c.toNat = 9 then [38, 35, 57, 59] else if c.toNat = 10 then [38, 35, 49, 48, 59] else if c.toNat = 13 then [38, 35, 49, 51, 59] else [] := by
    unfold refV; simp only [h38, h60, h34, h9, h10, h13]
  rw [hr]
  obtain ⟨n, hn⟩ : ∃ n, c.toNat = n := ⟨_, rfl⟩
  rw [hn]
  clear hr hn h38 h60 h34 h9 h10 h13
  go_enter Try.func17, Try.ntmps17
  by_cases a0 : n = 38
  · subst a0
    go_wp2
    go_ret
    exact ⟨rfl, rfl⟩
  · have b0 : ((n : Int) == 38) = false := by simp; omega
    by_cases a1 : n = 60
    · subst a1
      go_wp2
      go_ret
      exact ⟨rfl, rfl⟩
    · have b1 : ((n : Int) == 60) = false := by simp; omega
      by_cases a2 : n = 34
      · subst a2
        go_wp2
        go_ret
        exact ⟨rfl, rfl⟩
      · have b2 : ((n : Int) == 34) = false := by simp; omega
        by_cases a3 : n = 9
        · subst a3
          go_wp2
          go_ret
          exact ⟨rfl, rfl⟩
        · have b3 : ((n : Int) == 9) = false := by simp; omega
          by_cases a4 : n = 10
          · subst a4
            go_wp2
            go_ret
            exact ⟨rfl, rfl⟩
          · have b4 : ((n : Int) == 10) = false := by simp; omega
            by_cases a5 : n = 13
            · subst a5
              go_wp2
              go_ret
              exact ⟨rfl, rfl⟩
            · have b5 : ((n : Int) == 13) = false := by simp; omega
              go_wp2
              go_ret
              exact ⟨rfl, rfl⟩
theorem ext_ba (s : List UInt8) (a i : Nat) : (ba' s).extract a i = ba' ((s.take i).drop a) := by
  unfold ba'
  apply ByteArray.ext
  apply Array.ext'
  rw [ByteArray.data_extract, Array.toList_extract, List.extract_eq_take_drop, List.drop_take]
theorem bd_alloc {B b : Nat} {l : List UInt8} {w : World} (h : Bd B b l w) (o : Obj) : Bd B b l (w.alloc o) := by
  rcases h with ⟨hB, v, hb, hown, hne⟩ | ⟨hB, v, hb, hown, hne⟩
  · exact .inl ⟨hB, v, (Lib.alloc_old w o b (Array.getElem?_eq_some_iff.1 hb).1).trans hb, hown.alloc o, hne⟩
  · exact .inr ⟨hB, v, (Lib.alloc_old w o b (Array.getElem?_eq_some_iff.1 hb).1).trans hb, hown.alloc o, hne⟩
/-- Behind the last reference nothing is changed. -/
theorem esc_gap (r : UInt8 → List UInt8) (l : List UInt8) (a i : Nat) (hai : a ≤ i) (hi : i ≤ l.length) (h : ∀ j (hj : j < l.length), a ≤ j → j < i → r (l[j]'hj) = []) : esc r (l.take i) = esc r (l.take a) ++ (l.take i).drop a := by
  obtain ⟨d, rfl⟩ : ∃ d, i = a + d := ⟨i - a, by omega⟩
  induction d with
  | zero => rw [Nat.add_zero, List.drop_eq_nil_of_le (by rw [List.length_take]; omega), List.append_nil]
  | succ d ih =>
    have hl : a + d < l.length := by omega
    have h1 := ih (by omega) (by omega) fun j hj j1 j2 => h j hj j1 (by omega)
    have ht : l.take (a + (d + 1)) = l.take (a + d) ++ [l[a + d]'hl] := by rw [← Nat.add_assoc, List.take_add_one, List.getElem?_eq_getElem hl]; rfl
    rw [ht, esc_snoc, h1, List.append_assoc, List.drop_append_of_le_length (by rw [List.length_take]; omega)]
    congr 2
    unfold esc1
    rw [if_pos (h (a + d) hl (by omega) (by omega))]
theorem spell_any (B b fa : Nat) (r : UInt8 → List UInt8) (ea : ∀ args w, (callFunc fa args).run Try.prog w = .ok (.enter fa args) w) (hr : ∀ c w, Calls Try.prog fa #[.int .u8 (c.toNat : Int)] w fun e w' => e = .returned (.string (ba' (r c))) ∧ w' = w) (hr6 : ∀ c, (r c).length ≤ 6)
    (l s : List UInt8) (w : World) (h : Bd B b l w) (hs : s.length ≤ 1048576) (hlen : l.length ≤ 4398046511104) (hBw : B ≤ w.heap.size) :
    Calls Try.prog 13 #[.pointer (some ⟨b, 0, none⟩), .string (ba' s), .func (.func fa) #[] #[]] w fun e w' => e = .returned (.tuple #[]) ∧ Bd B b (l ++ esc r s) w' ∧ Below B w w' ∧ KeptO b w w' := by
  have H0 := Lib.hid h; have HR := Lib.hid hr; have HR6 := Lib.hid hr6
  obtain ⟨n, hn⟩ : ∃ n, s.length = n := ⟨_, rfl⟩
  have HN := Lib.hid hn
  have hsz : (ba' s).size = n := (size_ba s).trans hn
  rw [hn] at hs
  clear h hr hr6 hn
  go_enter Try.func13, Try.ntmps13
  go_wp2
  go_loopw [6, 11] (fun s6 s11 wx => ∃ a i : Nat, s6 = .int .i64 (a : Int) ∧ s11 = .int .i64 (i : Int) ∧ a ≤ i ∧ i ≤ n ∧ Hid (∀ j (hj : j < s.length), a ≤ j → j < i → r (s[j]'hj) = []) ∧ Hid (Bd B b (l ++ esc r (s.take a)) wx) ∧ Hid (Below B w wx ∧ KeptO b w wx)) (fun _ s11 _ => n - (RowKit.intOf s11).toNat)
  case atStart => exact ⟨0, 0, rfl, rfl, by omega, by omega, Lib.hid fun j _ _ h => by omega, Lib.hid (by simpa [esc] using H0.out), Lib.hid ⟨Below.refl _ _, KeptO.refl _ _⟩⟩
  case round =>
    obtain ⟨a, i, rfl, rfl, hai, hi, hgap, hB, hK⟩ := hrel
    by_cases hlt : i < n
    · have g0 : decide ((i : Int) < (n : Int)) = true := by simp; omega
      have g0' : decide (i < n) = true := by simpa using hlt
      have hil : i < s.length := by rw [HN.out]; exact hlt
      obtain ⟨c, hc⟩ : ∃ c, s[i]'hil = c := ⟨_, rfl⟩
      go_wp2_with fail
      refine (HR.out _ wr).mono ?_
      rintro e w1 ⟨he, hw1⟩
      change e = .returned (.string (ba' (r (s[i]'hil)))) at he
      rw [hc] at he
      subst e
      subst w1
      have hr6 := HR6.out c
      obtain ⟨rc, hrc⟩ : ∃ rc, r c = rc := ⟨_, rfl⟩
      rw [hrc] at hr6
      rw [hrc]
      have HC := Lib.hid (hc ▸ hrc : r (s[i]'hil) = rc)
      have HTK := Lib.hid (by rw [List.take_add_one, List.getElem?_eq_getElem hil, hc]; rfl : s.take (i + 1) = s.take i ++ [c])
      have HGAP := Lib.hid (esc_gap r s a i hai (by omega) hgap.out)
      have HE1 : Hid (esc1 r c = if rc = [] then [c] else rc) := Lib.hid (by unfold esc1; rw [hrc])
      clear hc hrc
      cases rc with
      | nil =>
        have e0 : (ba' []).toList.isEmpty = true := by rw [toList_ba]; rfl
        go_wp2
        go_roundw
        case rel => exact ⟨a, i + 1, rfl, by go_num, by omega, by omega, Lib.hid fun j hj j1 j2 => by
          rcases Nat.eq_or_lt_of_le (show j ≤ i by omega) with rfl | h
          · exact HC.out
          · exact hgap.out j hj j1 h, hB, hK⟩
        case measure => simp [RowKit.intOf]; omega
      | cons x xs =>
        have e0 : (ba' (x :: xs)).toList.isEmpty = false := by rw [toList_ba]; rfl
        have HB1 := Lib.hid (hK.out.1.size)
        have HP : Hid (∀ w1 : World, w1 = wr.alloc (.cells #[.string (ba' ((s.take i).drop a)), .string (ba' (x :: xs))] 9) → Calls Try.prog 16 #[.pointer (some ⟨b, 0, none⟩), .slice (some ⟨wr.heap.size, 0, none⟩) 2 2] w1 fun e w' => e = .returned (.tuple #[]) ∧ Bd B b (l ++ esc r (s.take a) ++ [(s.take i).drop a, x :: xs].flatten) w' ∧ Below B w1 w' ∧ KeptO b w1 w') := Lib.hid fun w1 e => by
          have hlt := hB.out.lt
          refine put_any B b wr.heap.size 2 2 _ [(s.take i).drop a, x :: xs] w1 ?_ ?_ (by omega) rfl (by omega) ?_ (by rw [e]; simp; have := HB1.out; omega)
          · rw [e]; exact bd_alloc hB.out _
          · rw [e]; exact heap_alloc_new _ _
          · have h1 := esc_len r HR6.out (s.take a)
            have h2 : (s.take a).length ≤ n := by rw [List.length_take]; omega
            have h3 : ((s.take i).drop a).length ≤ n := by rw [List.length_drop, List.length_take]; omega
            simp only [List.length_append, List.flatten_cons, List.flatten_nil, List.append_nil] at *
            omega
        have hx : (ba' s).extract a i = ba' ((s.take i).drop a) := ext_ba s a i
        go_wp2_with fail
        try simp only [hx]
        refine (HP.out _ rfl).mono ?_
        rintro e w2 ⟨rfl, h1, h2, h3⟩
        have HX := Lib.hid (⟨h1, h2, h3⟩ : _ ∧ _ ∧ _)
        clear h1 h2 h3
        go_wp2
        go_roundw
        case rel => exact ⟨i + 1, i + 1, by go_num, by go_num, by omega, by omega, Lib.hid fun j _ j1 j2 => by omega, Lib.hid (by
          have := HX.out.1
          rw [HTK.out, esc_snoc, HE1.out, if_neg (by simp), HGAP.out]
          simpa [List.append_assoc] using this), Lib.hid ⟨hK.out.1.trans (((Below.refl B wr).alloc (by have := HB1.out; omega) _).trans HX.out.2.1), (hK.out.2.below (ba (Below.refl _ _))).trans HX.out.2.2⟩⟩
        case measure => simp [RowKit.intOf]; omega
    · obtain rfl : i = n := by omega
      have g0 : decide ((i : Int) < (i : Int)) = false := by simp
      have HGAP := Lib.hid (esc_gap r s a i hai (by rw [HN.out]; omega) hgap.out)
      have hta : s.take i = s := List.take_of_length_le (by rw [HN.out]; omega)
      have HTA := Lib.hid hta
      have HB1 := Lib.hid (hK.out.1.size)
      have HP : Hid (∀ w1 : World, w1 = wr.alloc (.cells #[.string (ba' (s.drop a))] 9) → Calls Try.prog 16 #[.pointer (some ⟨b, 0, none⟩), .slice (some ⟨wr.heap.size, 0, none⟩) 1 1] w1 fun e w' => e = .returned (.tuple #[]) ∧ Bd B b (l ++ esc r (s.take a) ++ [s.drop a].flatten) w' ∧ Below B w1 w' ∧ KeptO b w1 w') := Lib.hid fun w1 e => by
        have hlt := hB.out.lt
        refine put_any B b wr.heap.size 1 1 _ [s.drop a] w1 ?_ ?_ (by omega) rfl (by omega) ?_ (by rw [e]; simp; have := HB1.out; omega)
        · rw [e]; exact bd_alloc hB.out _
        · rw [e]; exact heap_alloc_new _ _
        · have h1 := esc_len r HR6.out (s.take a)
          have h2 : (s.take a).length ≤ i := by rw [List.length_take]; omega
          have h3 : (s.drop a).length ≤ i := by rw [List.length_drop, HN.out]; omega
          simp only [List.length_append, List.flatten_cons, List.flatten_nil, List.append_nil] at *
          omega
      have hx : (ba' s).extract a i = ba' (s.drop a) := by rw [ext_ba, hta]
      clear hta
      go_wp2_with fail
      try simp only [hx]
      refine (HP.out _ rfl).mono ?_
      rintro e w2 ⟨rfl, h1, h2, h3⟩
      have HX := Lib.hid (⟨h1, h2, h3⟩ : _ ∧ _ ∧ _)
      clear h1 h2 h3
      go_wp2
      go_end0
      refine ⟨rfl, ?_, hK.out.1.trans (((Below.refl B wr).alloc (by have := HB1.out; omega) _).trans HX.out.2.1), (hK.out.2.below (ba (Below.refl _ _))).trans HX.out.2.2⟩
      have := HX.out.1
      have e := HGAP.out
      rw [HTA.out] at e
      rw [e]
      simpa [List.append_assoc] using this
end Go.Proofs.Ytonkepjfnbcncaa
namespace Go.Proofs.Ytonkepjfnbcncaa
open Go.RowKit Go.Lib
set_option maxRecDepth 100000
set_option maxHeartbeats 8000000
theorem comment_any (B b : Nat) (m : Int) (l v : List UInt8) (w : World) (h : Bd B b l w) (hm : w.cell? ⟨0, 0, none⟩ = some (.int .i64 m)) (hv : v.length ≤ 1048576) (hlen : l.length ≤ 1099511627776) (hBw : B ≤ w.heap.size) :
    Calls Try.prog 15 #[.pointer (some ⟨b, 0, none⟩), .string (ba' v)] w fun e w' => e = .returned (.bool (comOk v)) ∧ Bd B b (l ++ (if comOk v = true then [60, 33, 45, 45] ++ v ++ [45, 45, 62] else [])) w' ∧ Below B w w' ∧ KeptO b w w' := by
  have H0 := Lib.hid h
  have hC := Try.strings_Contains (ba' v) ⟨#[45, 45]⟩ m w (by rw [size_ba]; omega) hm
  have hS := Try.strings_HasSuffix (ba' v) ⟨#[45]⟩ w (by rw [size_ba]; omega)
  have e1 : Lib.contains (ba' v).data.toList (⟨#[45, 45]⟩ : ByteArray).data.toList = Lib.contains v [45, 45] := rfl
  have e2 : Lib.hasSuffix (ba' v).data.toList (⟨#[45]⟩ : ByteArray).data.toList = Lib.hasSuffix v [45] := rfl
  rw [e1] at hC
  rw [e2] at hS
  have hk : comOk v = !(Lib.contains v [45, 45] || Lib.hasSuffix v [45]) := rfl
  rw [hk]
  obtain ⟨cb, hcb⟩ : ∃ cb, Lib.contains v [45, 45] = cb := ⟨_, rfl⟩
  obtain ⟨sb, hsb⟩ : ∃ sb, Lib.hasSuffix v [45] = sb := ⟨_, rfl⟩
  rw [hcb] at hC ⊢
  rw [hsb] at hS ⊢
  have HC := Lib.hid hC; have HS := Lib.hid hS
  have HP : Hid (∀ w1 : World, w1 = w.alloc (.cells #[.string ⟨#[60, 33, 45, 45]⟩, .string (ba' v), .string ⟨#[45, 45, 62]⟩] 9) → Calls Try.prog 16 #[.pointer (some ⟨b, 0, none⟩), .slice (some ⟨w.heap.size, 0, none⟩) 3 3] w1 fun e w' => e = .returned (.tuple #[]) ∧ Bd B b (l ++ [[60, 33, 45, 45], v, [45, 45, 62]].flatten) w' ∧ Below B w1 w' ∧ KeptO b w1 w') := Lib.hid fun w1 e => by
    have hlt := h.lt
    refine put_any B b w.heap.size 3 3 _ [[60, 33, 45, 45], v, [45, 45, 62]] w1 ?_ ?_ (by omega) rfl (by omega) ?_ (by rw [e]; simp; omega)
    · rw [e]; exact bd_alloc h _
    · rw [e]; exact heap_alloc_new _ _
    · simp only [List.length_append, List.flatten_cons, List.flatten_nil, List.length_cons, List.length_nil]
      omega
  clear h hm hC hS e1 e2 hk hcb hsb
  go_enter Try.func15, Try.ntmps15
  cases cb with
  | true =>
    go_wp2_with fail
    refine HC.out.mono ?_
    rintro e w1 ⟨rfl, hw1⟩
    subst w1
    go_wp2
    go_ret
    exact ⟨rfl, by simpa using H0.out, Below.refl _ _, KeptO.refl _ _⟩
  | false =>
    go_wp2_with fail
    refine HC.out.mono ?_
    rintro e w1 ⟨rfl, hw1⟩
    subst w1
    go_wp2_with fail
    refine HS.out.mono ?_
    rintro e w1 ⟨rfl, hw1⟩
    subst w1
    cases sb with
    | true =>
      go_wp2
      go_ret
      exact ⟨rfl, by simpa using H0.out, Below.refl _ _, KeptO.refl _ _⟩
    | false =>
      go_wp2_with fail
      refine (HP.out _ rfl).mono ?_
      rintro e w2 ⟨rfl, h1, h2, h3⟩
      have HX := Lib.hid (⟨h1, h2, h3⟩ : _ ∧ _ ∧ _)
      clear h1 h2 h3
      go_wp2
      go_ret
      refine ⟨rfl, ?_, ((Below.refl B w).alloc hBw _).trans HX.out.2.1, ((KeptO.refl b w).below (ba (Below.refl _ _))).trans HX.out.2.2⟩
      simpa using HX.out.1
end Go.Proofs.Ytonkepjfnbcncaa
