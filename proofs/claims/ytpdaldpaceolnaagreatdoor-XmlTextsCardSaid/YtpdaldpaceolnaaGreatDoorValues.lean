/- Values of attributes. No condition beyond what the theorems state. -/
import Derived.Test.YtpdaldpaceolnaaGreatDoorSigns
namespace Go.Proofs.YtpdaldpaceolnaaGreatDoor
open Go.RowKit Go.Lib
set_option maxRecDepth 100000
set_option maxHeartbeats 4000000
theorem index_lt : ∀ (l : List UInt8), 0 ≤ Lib.index l [59] → (Lib.index l [59]).toNat + 1 ≤ l.length
  | [], h => by simp [Lib.index] at h
  | b :: l, h => by
    rw [Lib.index] at h ⊢
    by_cases h1 : ([59] : List UInt8).isPrefixOf (b :: l) = true
    · rw [if_pos h1]; simp
    · rw [if_neg h1] at h ⊢
      by_cases h2 : (Lib.index l [59] == -1) = true
      · rw [if_pos h2] at h; omega
      · rw [if_neg h2] at h ⊢
        have h3 : Lib.index l [59] ≠ -1 := by simpa using h2
        have := index_lt l (by omega)
        simp only [List.length_cons]
        omega
theorem encZ_len (x : Int) (_h0 : 0 ≤ x) (_h1 : x ≤ 1114111) : (encU x).length ≤ 4 := by
  unfold encU Lib.encodeRune Lib.encodeRuneZ
  repeat' split
  all_goals simp
theorem num_len {b : Nat} {l m : List UInt8} (h : numF b l = some m) : m.length ≤ 4 := by
  unfold numF at h
  cases hp : parseU b l with
  | none => rw [hp] at h; cases h
  | some v =>
    rw [hp] at h
    simp only [Option.bind_some] at h
    split at h
    · rename_i hx
      cases h
      obtain ⟨h0, h1⟩ := xml_bounds hx
      exact encZ_len _ (by omega) h1
    · cases h
theorem mean_len {l m : List UInt8} (h : meanF l = some m) : m.length ≤ 4 := by
  unfold meanF at h
  repeat' split at h
  any_goals (cases h; decide)
  unfold meanH at h
  repeat' split at h
  any_goals (cases h; done)
  all_goals exact num_len h
theorem cutF_len {l m t : List UInt8} (h : cutF l = some (m, t)) : t.length < l.length ∧ m.length ≤ 4 := by
  unfold cutF at h
  by_cases hc : (Lib.cut l [59]).2.2 = true
  · rw [if_pos hc] at h
    cases hm : meanF (Lib.cut l [59]).1 with
    | none => rw [hm] at h; cases h
    | some m' =>
      rw [hm] at h
      simp only [Option.map_some, Option.some.injEq, Prod.mk.injEq] at h
      obtain ⟨rfl, rfl⟩ := h
      refine ⟨?_, mean_len hm⟩
      unfold Lib.cut at hc ⊢
      by_cases hi : 0 ≤ Lib.index l [59]
      · rw [if_pos hi]
        have := index_lt l hi
        simp
        omega
      · rw [if_neg hi] at hc
        cases hc
  · rw [if_neg hc] at h; cases h
theorem index_split : ∀ (t : List UInt8), 0 ≤ Lib.index t [59] → t = t.take (Lib.index t [59]).toNat ++ 59 :: t.drop ((Lib.index t [59]).toNat + 1) ∧ ∀ x ∈ t.take (Lib.index t [59]).toNat, x ≠ 59
  | [], h => by simp [Lib.index] at h
  | b :: t, h => by
    have ih := index_split t
    rw [Lib.index] at h ⊢
    by_cases h1 : ([59] : List UInt8).isPrefixOf (b :: t) = true
    · rw [if_pos h1]
      simp [List.isPrefixOf] at h1
      subst h1
      exact ⟨rfl, fun x hx => by simp at hx⟩
    · rw [if_neg h1] at h ⊢
      by_cases h2 : (Lib.index t [59] == -1) = true
      · rw [if_pos h2] at h; omega
      · rw [if_neg h2] at h ⊢
        have h3 : Lib.index t [59] ≠ -1 := by simpa using h2
        obtain ⟨e, hx⟩ := ih (by omega)
        have hn : (Lib.index t [59] + 1).toNat = (Lib.index t [59]).toNat + 1 := by omega
        rw [hn]
        refine ⟨?_, fun x hm => ?_⟩
        · rw [List.take_succ_cons, List.drop_succ_cons, List.cons_append, ← e]
        · rw [List.take_succ_cons] at hm
          rcases List.mem_cons.1 hm with rfl | hm
          · intro e59
            subst e59
            exact h1 (by simp [List.isPrefixOf])
          · exact hx x hm
theorem index_at (body t : List UInt8) (h : ∀ x ∈ body, x ≠ 59) : Lib.index (body ++ 59 :: t) [59] = (body.length : Int) := by
  induction body with
  | nil => simp [Lib.index]
  | cons b body ih =>
    have hb := h b (.head _)
    have ih' := ih fun x hx => h x (.tail _ hx)
    rw [List.cons_append, Lib.index, ih']
    have e1 : ([59] : List UInt8).isPrefixOf (b :: (body ++ 59 :: t)) = false := by
      simp [List.isPrefixOf]
      exact fun e => hb e.symm
    have e2 : (((body.length : Nat) : Int) == -1) = false := by rw [beq_eq_false_iff_ne]; omega
    rw [e1, e2]
    simp
theorem cut_at (body t : List UInt8) (h : ∀ x ∈ body, x ≠ 59) : Lib.cut (body ++ 59 :: t) [59] = (body, t, true) := by
  unfold Lib.cut
  rw [index_at body t h, if_pos (by omega)]
  simp
theorem cutF_split {t m r : List UInt8} (h : cutF t = some (m, r)) : ∃ body, t = body ++ 59 :: r ∧ ∀ z, cutF (body ++ 59 :: z) = some (m, z) := by
  by_cases hi : 0 ≤ Lib.index t [59]
  · obtain ⟨e, hx⟩ := index_split t hi
    have e1 : Lib.cut t [59] = (t.take (Lib.index t [59]).toNat, t.drop ((Lib.index t [59]).toNat + 1), true) := by unfold Lib.cut; rw [if_pos hi]; rfl
    unfold cutF at h
    rw [e1] at h
    simp only at h
    rw [if_pos trivial] at h
    cases hm : meanF (t.take (Lib.index t [59]).toNat) with
    | none => rw [hm] at h; cases h
    | some m' =>
      rw [hm] at h
      simp only [Option.map_some, Option.some.injEq, Prod.mk.injEq] at h
      obtain ⟨rfl, rfl⟩ := h
      refine ⟨t.take (Lib.index t [59]).toNat, e, fun z => ?_⟩
      unfold cutF
      rw [cut_at _ z hx]
      simp only
      rw [if_pos trivial, hm]
      rfl
  · unfold cutF at h
    have e1 : Lib.cut t [59] = (t, [], false) := by unfold Lib.cut; rw [if_neg hi]
    rw [e1] at h
    cases h
theorem enc_pos (r : Nat) (h : runeOk r) : 0 < (enc r).length := by
  rw [encZ r h]
  repeat' split
  all_goals simp
/-- A valid text parts at an ASCII byte. -/
theorem vx_split : ∀ (n : Nat) (u : List UInt8) (c : UInt8) (v : List UInt8), u.length ≤ n → c.toNat < 128 → validX (u ++ c :: v) = true → validX u = true ∧ validX (c :: v) = true
  | n, [], c, v, _, _, h => ⟨validX_nil, h⟩
  | 0, a :: u, c, v, hn, _, _ => by simp at hn
  | n + 1, a :: u, c, v, hn, hc, h => by
    obtain ⟨r, hr, hx, e, _, hv⟩ := vx_cut _ (by simp) h
    have hp := enc_pos r hr
    by_cases hle : (enc r).length ≤ (a :: u).length
    · rw [List.drop_append_of_le_length hle] at e hv
      have e2 : a :: u = enc r ++ (a :: u).drop (enc r).length := List.append_cancel_right (bs := c :: v) (by rw [List.append_assoc]; exact e)
      obtain ⟨h1, h2⟩ := vx_split n ((a :: u).drop (enc r).length) c v (by simp only [List.length_drop, List.length_cons] at hn ⊢; omega) hc hv
      refine ⟨?_, h2⟩
      rw [e2, validX_append _ (validX_enc r hr hx)]
      exact h1
    · exfalso
      have hcm : c ∈ enc r := by
        have h1 : ((a :: u) ++ c :: v)[(a :: u).length]? = some c := by rw [List.getElem?_append_right (Nat.le_refl _)]; simp
        rw [e, List.getElem?_append_left (by omega)] at h1
        exact List.mem_of_getElem? h1
      rcases Nat.lt_or_ge 127 r with hr2 | hr2
      · have := enc_high r hr hr2 c hcm
        omega
      · rw [encZ r hr, if_pos hr2] at hle
        simp at hle
theorem vx_behind (c : UInt8) (v : List UInt8) (hc : c.toNat < 128) (h : validX (c :: v) = true) : validX [c] = true ∧ validX v = true := by
  obtain ⟨r, hr, hx, e, hd, hv⟩ := vx_cut _ (by simp) h
  have hd2 := dec_low (c :: v) hc
  rw [hd] at hd2
  have hl : (enc r).length = 1 := (Prod.mk.inj hd2).2
  rw [hl] at e hv
  have he : enc r = [c] := by
    rcases hx2 : enc r with _ | ⟨b, _ | ⟨b2, t⟩⟩
    · rw [hx2] at hl; simp at hl
    · rw [hx2] at e
      simp at e
      rw [e]
    · rw [hx2] at hl; simp at hl
  exact ⟨by rw [← he]; exact validX_enc r hr hx, hv⟩
theorem vx_ascii : ∀ (u v : List UInt8), (∀ x ∈ u, x.toNat < 128) → validX (u ++ v) = true → validX u = true ∧ validX v = true
  | [], v, _, h => ⟨validX_nil, h⟩
  | a :: u, v, hu, h => by
    obtain ⟨h1, h2⟩ := vx_behind a (u ++ v) (hu a (.head _)) h
    obtain ⟨h3, h4⟩ := vx_ascii u v (fun x hx => hu x (.tail _ hx)) h2
    refine ⟨?_, h4⟩
    show validX ([a] ++ u) = true
    rw [validX_append _ h1]
    exact h3
theorem vx_app {a b : List UInt8} (ha : validX a = true) (hb : validX b = true) : validX (a ++ b) = true := by
  rw [validX_append _ ha]; exact hb
/-- Along a plain name a valid text parts. -/
theorem vx_drop_ascii : ∀ (n : Nat) (l : List UInt8), validX l = true → (∀ x ∈ l.take n, x.toNat < 128) → validX (l.drop n) = true
  | 0, l, h, _ => by rw [List.drop_zero]; exact h
  | n + 1, [], h, _ => h
  | n + 1, a :: l, h, ha => by
    have ha0 : a.toNat < 128 := ha a (by simp)
    exact vx_drop_ascii n l (vx_behind a l ha0 h).2 fun x hx => ha x (by rw [List.take_succ_cons]; exact .tail _ hx)
theorem prefix_take {l p : List UInt8} (h : Lib.hasPrefix l p = true) : l.take p.length = p := by
  unfold Lib.hasPrefix at h
  obtain ⟨t, rfl⟩ := List.isPrefixOf_iff_prefix.1 h
  rw [List.take_left]
theorem strip_valid {l p r : List UInt8} (hp : ∀ x ∈ p, x.toNat < 128) (hv : validX l = true) (h : stripX p l = some r) : validX r = true ∧ r.length + p.length = l.length := by
  unfold stripX at h
  split at h
  · rename_i hh
    cases h
    have ht := prefix_take hh
    refine ⟨vx_drop_ascii _ _ hv (by rw [ht]; exact hp), ?_⟩
    have := congrArg List.length ht
    rw [List.length_take] at this
    rw [List.length_drop]
    omega
  · cases h
theorem trim_cons (c : UInt8) (l : List UInt8) : trimX (c :: l) = if spX.contains c = true then trimX l else c :: l := by
  unfold trimX Lib.trimLeftS
  rw [List.dropWhile_cons]
theorem trim_valid : ∀ l : List UInt8, validX l = true → validX (trimX l) = true
  | [], h => h
  | c :: l, h => by
    rw [trim_cons]
    split
    · rename_i hc
      have hc2 : c.toNat < 128 := by
        have : ∀ x ∈ spX, x.toNat < 128 := by decide
        rw [List.contains_eq_mem, decide_eq_true_eq] at hc
        exact this c hc
      exact trim_valid l (vx_behind c l hc2 h).2
    · exact h
theorem cutF_valid {l m r : List UInt8} (hv : validX l = true) (h : cutF l = some (m, r)) : validX r = true := by
  obtain ⟨body, hb, _⟩ := cutF_split h
  rw [hb] at hv
  have h2 := (vx_split body.length body 59 r (Nat.le_refl _) (by decide) hv).2
  exact (vx_behind 59 r (by decide) h2).2
/-- Where the first of some ASCII bytes stands, a valid text parts. -/
theorem any_split (p : List UInt8) (ha : ∀ x ∈ p, x.toNat < 128) : ∀ (l : List UInt8), Lib.indexAny l p = -1 ∨ ∃ u c v, l = u ++ c :: v ∧ c ∈ p ∧ Lib.indexAny l p = (u.length : Int)
  | [] => .inl rfl
  | b :: l => by
    by_cases hb : p.contains b = true
    · refine .inr ⟨[], b, l, rfl, by simpa using hb, ?_⟩
      show (if p.contains b = true then (0 : Int) else _) = _
      rw [if_pos hb]
      rfl
    · rcases any_split p ha l with h | ⟨u, c, v, e, hc, h⟩
      · left
        show (if p.contains b = true then (0 : Int) else if (Lib.indexAny l p == -1) = true then -1 else _) = _
        rw [if_neg hb, h]
        rfl
      · right
        refine ⟨b :: u, c, v, by rw [e]; rfl, hc, ?_⟩
        show (if p.contains b = true then (0 : Int) else if (Lib.indexAny l p == -1) = true then -1 else Lib.indexAny l p + 1) = _
        rw [if_neg hb, h, if_neg (by simp only [beq_iff_eq]; omega)]
        simp only [List.length_cons]
        omega
theorem cutAny_valid (p : List UInt8) (ha : ∀ x ∈ p, x.toNat < 128) (l : List UInt8) (hv : validX l = true) : validX (cutX l (Lib.indexAny l p)).2 = true ∧ (cutX l (Lib.indexAny l p)).1.length + (cutX l (Lib.indexAny l p)).2.length = l.length := by
  rcases any_split p ha l with h | ⟨u, c, v, e, hc, h⟩
  · rw [h]
    unfold cutX
    rw [if_pos (by decide)]
    exact ⟨validX_nil, by simp⟩
  · rw [h]
    unfold cutX
    rw [if_neg (by omega)]
    simp only [Int.toNat_natCast]
    refine ⟨?_, by rw [List.length_take, List.length_drop]; have := congrArg List.length e; rw [List.length_append] at this; omega⟩
    rw [e, List.drop_left]
    rw [e] at hv
    exact (vx_split u.length u c v (Nat.le_refl _) (ha c hc) hv).2
/-- A cut at one of some bytes takes something off, unless the text begins with one. -/
theorem cutAny_less (p : List UInt8) (l : List UInt8) (hne : l ≠ []) (h0 : ∀ x ∈ p, Lib.hasPrefix l [x] = false) : (cutX l (Lib.indexAny l p)).2.length < l.length := by
  rcases l with _ | ⟨b, l⟩
  · exact absurd rfl hne
  · have hb : ¬ p.contains b = true := by
      intro e
      have hm : b ∈ p := by simpa using e
      have := h0 b hm
      simp [Lib.hasPrefix, List.isPrefixOf] at this
    have e : Lib.indexAny (b :: l) p = if (Lib.indexAny l p == -1) = true then -1 else Lib.indexAny l p + 1 := by
      show (if p.contains b = true then (0 : Int) else _) = _
      rw [if_neg hb]
    have hg := Lib.indexAny_ge p l
    unfold cutX
    by_cases hk : Lib.indexAny l p = -1
    · rw [e, hk]
      simp
    · rw [if_neg (by simpa using hk)] at e
      rw [e, if_neg (by omega)]
      simp only [List.length_drop, List.length_cons]
      omega
end Go.Proofs.YtpdaldpaceolnaaGreatDoor
namespace Go.Proofs.YtpdaldpaceolnaaGreatDoor
open Go.RowKit Go.Lib
set_option maxRecDepth 100000
set_option maxHeartbeats 8000000
def leftLen (b : Nat) (w : World) : Nat := match w.cell? ⟨b, 0, none⟩ with
  | some (.string s) => s.size
  | _ => 0
theorem leftLen_at {w : World} {b : Nat} {l : List UInt8} (h : At w b l) : leftLen b w = l.length := by
  unfold leftLen
  rw [h.1]
  exact size_ba l
def VlPost (b : Nat) (l : List UInt8) (w : World) (e : Ending) (w' : World) : Prop := match valueL l with
  | some (v, r) => e = .returned (.string (ba' v)) ∧ Mv b r w w'
  | none => e = GU 61 ∧ ∃ l', Mv b l' w w'
def VgPost (b : Nat) (R : Option (List UInt8 × List UInt8)) (w : World) (e : Ending) (w' : World) : Prop := match R with
  | some (v, r) => e = .returned (.string (ba' v)) ∧ Mv b r w w'
  | none => e = GU 61 ∧ ∃ l', Mv b l' w w'
theorem value_34 (b : Nat) (l0 l1 : List UInt8) (w : World) (h : At w b l0) (hl : l0.length ≤ 100000) (hv : validX l0 = true) (hE : Env w) (hb5 : 5 ≤ b) (hs : stripX [34] l0 = some l1) (R : Option (List UInt8 × List UInt8)) (hR : valueGo 34 (l1.length + 1) l1 [] = R) : Calls Tryz.prog 73 #[.pointer (some ⟨b, 0, none⟩)] w (VgPost b R w) := by
  obtain ⟨hv1, hl1⟩ := strip_valid (by decide) hv hs
  simp only [List.length_cons, List.length_nil] at hl1
  have HA := Lib.hid h
  have HE := Lib.hid hE
  have HR := Lib.hid hR
  have HV1 := Lib.hid hv1
  have hz := h.2.2
  have HTQ : Hid (∀ (l : List UInt8) (W : World), At W b l → Calls Tryz.prog 47 #[.pointer (some ⟨b, 0, none⟩), .string ⟨#[34]⟩] W (TkPost b [34] l W)) := Lib.hid fun l W hW => take_any b l [34] W hW
  have HTA : Hid (∀ (l : List UInt8) (W : World), At W b l → Calls Tryz.prog 47 #[.pointer (some ⟨b, 0, none⟩), .string ⟨#[38]⟩] W (TkPost b [38] l W)) := Lib.hid fun l W hW => take_any b l [38] W hW
  have HAH : Hid (∀ (l : List UInt8) (W : World), At W b l → Calls Tryz.prog 72 #[.pointer (some ⟨b, 0, none⟩), .string ⟨#[60]⟩] W fun e w' => e = .returned (.bool (Lib.hasPrefix l [60])) ∧ w' = W) := Lib.hid fun l W hW => ahead_any b l [60] W hW
  have HCH : Hid (∀ (l : List UInt8) (W : World), At W b l → l.length ≤ 100000 → validX l = true → Calls Tryz.prog 93 #[.pointer (some ⟨b, 0, none⟩), .string ⟨#[60, 38, 34]⟩] W fun e w' => e = .returned (.string (ba' (cutX l (Lib.indexAny l [60, 38, 34])).1)) ∧ Mv b (cutX l (Lib.indexAny l [60, 38, 34])).2 W w') := Lib.hid fun l W hW h1 h2 => characters_any b l [60, 38, 34] W hW (by omega) (.inr rfl) (by decide) h2
  have ht0 := take_any b l0 [34] w h
  unfold TkPost at ht0
  rw [hs] at ht0
  have HT0 : Hid (Calls Tryz.prog 47 #[.pointer (some ⟨b, 0, none⟩), .string ⟨#[34]⟩] w fun e w' => e = .returned (.bool true) ∧ Mv b l1 w w') := Lib.hid ht0
  clear h hE hR hv1 ht0 hv hs
  go_enter Tryz.func73, Tryz.ntmps73
  go_wp2_with fail
  refine HT0.out.mono ?_
  rintro e w1 ⟨rfl, hm⟩
  have HM1 := Lib.hid hm
  have HA1 := Lib.hid hm.here
  have z1 := Nat.lt_of_lt_of_le hz hm.grow
  have zz1 := hm.grow
  clear hm
  have HB0 : Hid (Lib.IsBuilder 99 5 w1.heap.size w1.heap.size [] (w1.alloc (.cells #[.pointer none, .slice none 0 0] 99))) := Lib.hid (Lib.fresh_isBuilder 99 5 w1)
  have HM2 : Hid (Mv b l1 w (w1.alloc (.cells #[.pointer none, .slice none 0 0] 99))) := Lib.hid (HM1.out.below (ba (Below.refl _ _)))
  go_wp2
  go_loopw [] (fun wx => ∃ (l acc : List UInt8) (f : Nat), l.length < f ∧ l.length ≤ l0.length ∧ acc.length + 4 * l.length ≤ 4 * l0.length ∧ Hid (validX l = true) ∧ Hid (valueGo 34 f l acc = R) ∧ Hid (Mv b l w wx) ∧ Hid (Lib.IsBuilder 99 5 w1.heap.size w1.heap.size (Lib.byteCells acc) wx) ∧ w1.heap.size < wx.heap.size) (fun wx => leftLen b wx)
  case atStart => exact ⟨l1, [], l1.length + 1, by omega, by omega, by simp only [List.length_nil]; omega, HV1, HR, HM2, HB0, by simp⟩
  case round =>
    obtain ⟨l, acc, f, hf, hll, hac, HV, HF, HM, HI, hzx⟩ := hrel
    obtain ⟨f, rfl⟩ : ∃ f', f = f' + 1 := ⟨f - 1, by omega⟩
    have HAT := Lib.hid HM.out.here
    have HLL := Lib.hid (leftLen_at HAT.out)
    have hst := HF.out
    unfold valueGo at hst
    have HST := Lib.hid hst
    clear hst HF HR HA1 HM1 HM2 HB0
    go_wp2_with fail
    refine (HTQ.out l _ HAT.out).mono ?_
    intro e w3 ht
    unfold TkPost at ht
    cases hsq : stripX [34] l with
    | some r =>
      rw [hsq] at ht
      obtain ⟨rfl, hm⟩ := ht
      have HN : Hid (R = some (acc, r)) := Lib.hid (by have h := HST.out; rw [hsq] at h; exact h.symm)
      have HM3 := Lib.hid (HM.out.trans hm)
      have HI3 := Lib.hid (builder_mv HI.out hm z1)
      have z3 : w1.heap.size < w3.heap.size := Nat.lt_of_lt_of_le hzx hm.grow
      clear hm HST hsq
      go_wp2_with fail
      refine (Tryz.Builder_String_any w1.heap.size w1.heap.size acc w3 HI3.out (by omega)).mono ?_
      rintro e w4 ⟨rfl, hb⟩
      have HM4 := Lib.hid (HM3.out.high hb zz1 z1)
      clear hb
      go_wp2
      go_ret
      rw [HN.out]
      exact ⟨rfl, HM4.out⟩
    | none =>
      rw [hsq] at ht
      obtain ⟨rfl, hm⟩ := ht
      have hst := HST.out
      rw [hsq] at hst
      simp only at hst
      have HST2 := Lib.hid hst
      have HM3 := Lib.hid (HM.out.trans hm)
      have HA3 := Lib.hid hm.here
      have HI3 := Lib.hid (builder_mv HI.out hm z1)
      have z3 : w1.heap.size < w3.heap.size := Nat.lt_of_lt_of_le hzx hm.grow
      have HQN := Lib.hid hsq
      clear hm hst HST hsq hzx HI HM HAT
      go_wp2_with fail
      refine (HTA.out l _ HA3.out).mono ?_
      intro e w4 ht
      unfold TkPost at ht
      cases hsa : stripX [38] l with
      | some r =>
        rw [hsa] at ht
        obtain ⟨rfl, hm⟩ := ht
        obtain ⟨hvr, hlr⟩ := strip_valid (by decide) HV.out hsa
        simp only [List.length_cons, List.length_nil] at hlr
        have hst := HST2.out
        rw [hsa] at hst
        simp only at hst
        have HST3 := Lib.hid hst
        have HM4 := Lib.hid (HM3.out.trans hm)
        have HA4 := Lib.hid hm.here
        have HI4 := Lib.hid (builder_mv HI3.out hm z1)
        have z4 : w1.heap.size < w4.heap.size := Nat.lt_of_lt_of_le z3 hm.grow
        have HRF := Lib.hid (reference_any b r w4 HA4.out (by omega) (HE.out.mv HM4.out hb5))
        have HVR := Lib.hid hvr
        clear hm hst hsa HST2 HA3 HI3 HM3 z3 hvr
        go_wp2_with fail
        refine HRF.out.mono ?_
        intro e w5 hrf
        unfold RfPost at hrf
        cases hcf : cutF r with
        | none =>
          rw [hcf] at hrf
          obtain ⟨rfl, hm⟩ := hrf
          have HN : Hid (R = none) := Lib.hid (by have h := HST3.out; rw [hcf] at h; exact h.symm)
          have HM5 := Lib.hid (HM4.out.trans hm)
          clear hm HST3 hcf
          go_wp2
          rw [HN.out]
          exact ⟨rfl, rfl, _, HM5.out⟩
        | some x =>
          obtain ⟨m, rest⟩ := x
          rw [hcf] at hrf
          obtain ⟨rfl, hm⟩ := hrf
          have hst := HST3.out
          rw [hcf] at hst
          simp only at hst
          have HN := Lib.hid hst
          obtain ⟨c1, c2⟩ := cutF_len hcf
          have HVS := Lib.hid (cutF_valid HVR.out hcf)
          have HM5 := Lib.hid (HM4.out.trans hm)
          have HI5 := Lib.hid (builder_mv HI4.out hm z1)
          have z5 : w1.heap.size < w5.heap.size := Nat.lt_of_lt_of_le z4 hm.grow
          clear hm hst HST3 hcf HI4 HM4 HA4
          go_wp2_with fail
          refine (write_any w1.heap.size w1.heap.size (Lib.byteCells acc) (ba' m) w5 HI5.out (by rw [byteCells_len, size_ba]; omega) (by omega)).mono ?_
          rintro e w6 ⟨rfl, hI6, hb6⟩
          have HI6 : Hid (Lib.IsBuilder 99 5 w1.heap.size w1.heap.size (Lib.byteCells (acc ++ m)) w6) := Lib.hid (.inr (by
            have e1 : Lib.byteCells (acc ++ m) = Lib.byteCells acc ++ Lib.strCells (ba' m) := by rw [Lib.byteCells_append]; rfl
            rw [e1]; exact hI6))
          have HM6 := Lib.hid (HM5.out.high hb6 zz1 z1)
          have z6 : w1.heap.size < w6.heap.size := Nat.lt_of_lt_of_le z5 hb6.size
          have HL6 := Lib.hid (leftLen_at HM6.out.here)
          clear hI6 hb6
          go_wp2
          go_roundw
          case rel => exact ⟨rest, acc ++ m, f, by omega, by omega, by rw [List.length_append]; omega, HVS, HN, HM6, HI6, z6⟩
          case measure => rw [HL6.out, HLL.out]; omega
      | none =>
        rw [hsa] at ht
        obtain ⟨rfl, hm⟩ := ht
        have hst := HST2.out
        rw [hsa] at hst
        simp only at hst
        have HST3 := Lib.hid hst
        have HM4 := Lib.hid (HM3.out.trans hm)
        have HA4 := Lib.hid hm.here
        have HI4 := Lib.hid (builder_mv HI3.out hm z1)
        have z4 : w1.heap.size < w4.heap.size := Nat.lt_of_lt_of_le z3 hm.grow
        have HAN := Lib.hid hsa
        clear hm hst hsa HST2 HA3 HI3 HM3 z3
        by_cases h0 : l = []
        · have HN : Hid (R = none) := Lib.hid (by have h := HST3.out; rw [if_pos (.inl h0)] at h; exact h.symm)
          subst h0
          obtain ⟨k0, k1, k2⟩ := HA4.out
          have e0 : (ba' []).toList.isEmpty = true := by rw [toList_ba]; rfl
          clear HST3
          go_wp2_with fail
          refine (fail_any _ _).mono ?_
          rintro e w6 ⟨rfl, rfl⟩
          go_wp2
          rw [HN.out]
          exact ⟨rfl, rfl, _, HM4.out⟩
        · obtain ⟨k0, k1, k2⟩ := HA4.out
          have e0 : (ba' l).toList.isEmpty = false := by rw [toList_ba]; cases l with | nil => exact absurd rfl h0 | cons => rfl
          have HH0 := Lib.hid h0
          clear h0
          go_wp2_with fail
          refine (HAH.out l _ HA4.out).mono ?_
          rintro e w5 ⟨rfl, rfl⟩
          cases hlt : Lib.hasPrefix l [60] with
          | true =>
            have HN : Hid (R = none) := Lib.hid (by have h := HST3.out; rw [if_pos (.inr hlt)] at h; exact h.symm)
            clear HST3 hlt k0 k1 k2
            go_wp2_with fail
            refine (fail_any _ _).mono ?_
            rintro e w6 ⟨rfl, rfl⟩
            go_wp2
            rw [HN.out]
            exact ⟨rfl, rfl, _, HM4.out⟩
          | false =>
            have hst := HST3.out
            rw [if_neg (by rintro (e | e); exact HH0.out e; rw [hlt] at e; cases e)] at hst
            have hless := cutAny_less [60, 38, 34] l HH0.out (by
              intro x hx
              simp only [List.mem_cons, List.not_mem_nil, or_false] at hx
              rcases hx with rfl | rfl | rfl
              · exact hlt
              · rw [strip_has, HAN.out]; rfl
              · rw [strip_has, HQN.out]; rfl)
            obtain ⟨hcv, hcl⟩ := cutAny_valid [60, 38, 34] (by decide) l HV.out
            have hch := HCH.out l w5 HA4.out (by omega) HV.out
            obtain ⟨u, t, hut⟩ : ∃ u t, cutX l (Lib.indexAny l [60, 38, 34]) = (u, t) := ⟨_, _, rfl⟩
            rw [hut] at hst hless hcv hcl hch
            simp only at hst hless hcv hcl hch
            have HN := Lib.hid hst
            have HCV := Lib.hid hcv
            have HCC := Lib.hid hch
            have hbl : (blanksL u).length ≤ u.length := Nat.le_trans (replaceAll_len _ [10] [32] (by decide)) (replaceAll_len _ [9] [32] (by decide))
            have hcat : (⟨#[60, 38]⟩ : ByteArray) ++ ⟨#[34]⟩ = ⟨#[60, 38, 34]⟩ := by rfl
            have HBL : Hid (∀ W, Mv b t w W → Calls Tryz.prog 92 #[.string (ba' u)] W fun e w' => e = .returned (.string (ba' (blanksL u))) ∧ Below W.heap.size W w') := Lib.hid fun W hW => by
              obtain ⟨_, ⟨v, hv⟩, _⟩ := HE.out.mv hW hb5
              exact blanks_any u (by omega) v W hv
            clear hst hcv hch hut hlt k0 k1 k2 HST3
            go_wp2_with fail
            refine HCC.out.mono ?_
            rintro e w6 ⟨rfl, hm⟩
            have HM6 := Lib.hid (HM4.out.trans hm)
            have HI6 := Lib.hid (builder_mv HI4.out hm z1)
            have z6 : w1.heap.size < w6.heap.size := Nat.lt_of_lt_of_le z4 hm.grow
            clear hm HI4 HM4 HA4 HCC
            go_wp2_with fail
            refine (HBL.out _ HM6.out).mono ?_
            rintro e w7 ⟨rfl, hb⟩
            have HM7 := Lib.hid (HM6.out.below hb)
            have HI7 := Lib.hid (builder_mv HI6.out (Mv.of_below HM6.out.here hb) z1)
            have z7 : w1.heap.size < w7.heap.size := Nat.lt_of_lt_of_le z6 hb.size
            clear hb HI6 HM6 HBL
            go_wp2_with fail
            refine (write_any w1.heap.size w1.heap.size (Lib.byteCells acc) (ba' (blanksL u)) w7 HI7.out (by rw [byteCells_len, size_ba]; omega) (by omega)).mono ?_
            rintro e w8 ⟨rfl, hI8, hb8⟩
            have HI8 : Hid (Lib.IsBuilder 99 5 w1.heap.size w1.heap.size (Lib.byteCells (acc ++ blanksL u)) w8) := Lib.hid (.inr (by
              have e1 : Lib.byteCells (acc ++ blanksL u) = Lib.byteCells acc ++ Lib.strCells (ba' (blanksL u)) := by rw [Lib.byteCells_append]; rfl
              rw [e1]; exact hI8))
            have HM8 := Lib.hid (HM7.out.high hb8 zz1 z1)
            have z8 : w1.heap.size < w8.heap.size := Nat.lt_of_lt_of_le z7 hb8.size
            have HL8 := Lib.hid (leftLen_at HM8.out.here)
            clear hI8 hb8 hcat
            go_wp2
            go_roundw
            case rel => exact ⟨t, acc ++ blanksL u, f, by omega, by omega, by rw [List.length_append]; omega, HCV, HN, HM8, HI8, z8⟩
            case measure => rw [HL8.out, HLL.out]; omega
theorem value_39 (b : Nat) (l0 l1 : List UInt8) (w : World) (h : At w b l0) (hl : l0.length ≤ 100000) (hv : validX l0 = true) (hE : Env w) (hb5 : 5 ≤ b) (hs0 : stripX [34] l0 = none) (hs : stripX [39] l0 = some l1) (R : Option (List UInt8 × List UInt8)) (hR : valueGo 39 (l1.length + 1) l1 [] = R) : Calls Tryz.prog 73 #[.pointer (some ⟨b, 0, none⟩)] w (VgPost b R w) := by
  obtain ⟨hv1, hl1⟩ := strip_valid (by decide) hv hs
  simp only [List.length_cons, List.length_nil] at hl1
  have HA := Lib.hid h
  have HE := Lib.hid hE
  have HR := Lib.hid hR
  have HV1 := Lib.hid hv1
  have hz := h.2.2
  have HTQ : Hid (∀ (l : List UInt8) (W : World), At W b l → Calls Tryz.prog 47 #[.pointer (some ⟨b, 0, none⟩), .string ⟨#[39]⟩] W (TkPost b [39] l W)) := Lib.hid fun l W hW => take_any b l [39] W hW
  have HTA : Hid (∀ (l : List UInt8) (W : World), At W b l → Calls Tryz.prog 47 #[.pointer (some ⟨b, 0, none⟩), .string ⟨#[38]⟩] W (TkPost b [38] l W)) := Lib.hid fun l W hW => take_any b l [38] W hW
  have HAH : Hid (∀ (l : List UInt8) (W : World), At W b l → Calls Tryz.prog 72 #[.pointer (some ⟨b, 0, none⟩), .string ⟨#[60]⟩] W fun e w' => e = .returned (.bool (Lib.hasPrefix l [60])) ∧ w' = W) := Lib.hid fun l W hW => ahead_any b l [60] W hW
  have HCH : Hid (∀ (l : List UInt8) (W : World), At W b l → l.length ≤ 100000 → validX l = true → Calls Tryz.prog 93 #[.pointer (some ⟨b, 0, none⟩), .string ⟨#[60, 38, 39]⟩] W fun e w' => e = .returned (.string (ba' (cutX l (Lib.indexAny l [60, 38, 39])).1)) ∧ Mv b (cutX l (Lib.indexAny l [60, 38, 39])).2 W w') := Lib.hid fun l W hW h1 h2 => characters_any b l [60, 38, 39] W hW (by omega) (.inr rfl) (by decide) h2
  have ht0 := take_any b l0 [34] w h
  unfold TkPost at ht0
  rw [hs0] at ht0
  have HT0 : Hid (Calls Tryz.prog 47 #[.pointer (some ⟨b, 0, none⟩), .string ⟨#[34]⟩] w fun e w' => e = .returned (.bool false) ∧ Mv b l0 w w') := Lib.hid ht0
  have HN0 : Hid (∀ W, At W b l0 → Calls Tryz.prog 49 #[.pointer (some ⟨b, 0, none⟩), .string ⟨#[39]⟩] W fun e w' => e = .returned (.tuple #[]) ∧ Mv b l1 W w') := Lib.hid fun W hW => by
    have h := need_any b l0 [39] W hW
    unfold NdPost at h
    rw [hs] at h
    exact h
  clear h hE hR hv1 ht0 hv hs hs0
  go_enter Tryz.func73, Tryz.ntmps73
  go_wp2_with fail
  refine HT0.out.mono ?_
  rintro e w0 ⟨rfl, hm⟩
  have HM0 := Lib.hid hm
  have HA0 := Lib.hid hm.here
  clear hm
  go_wp2_with fail
  refine (HN0.out _ HA0.out).mono ?_
  rintro e w1 ⟨rfl, hm⟩
  have HM1 := Lib.hid (HM0.out.trans hm)
  have HA1 := Lib.hid hm.here
  have zz1 := HM1.out.grow
  have z1 := Nat.lt_of_lt_of_le hz zz1
  clear hm
  have HB0 : Hid (Lib.IsBuilder 99 5 w1.heap.size w1.heap.size [] (w1.alloc (.cells #[.pointer none, .slice none 0 0] 99))) := Lib.hid (Lib.fresh_isBuilder 99 5 w1)
  have HM2 : Hid (Mv b l1 w (w1.alloc (.cells #[.pointer none, .slice none 0 0] 99))) := Lib.hid (HM1.out.below (ba (Below.refl _ _)))
  go_wp2
  go_loopw [] (fun wx => ∃ (l acc : List UInt8) (f : Nat), l.length < f ∧ l.length ≤ l0.length ∧ acc.length + 4 * l.length ≤ 4 * l0.length ∧ Hid (validX l = true) ∧ Hid (valueGo 39 f l acc = R) ∧ Hid (Mv b l w wx) ∧ Hid (Lib.IsBuilder 99 5 w1.heap.size w1.heap.size (Lib.byteCells acc) wx) ∧ w1.heap.size < wx.heap.size) (fun wx => leftLen b wx)
  case atStart => exact ⟨l1, [], l1.length + 1, by omega, by omega, by simp only [List.length_nil]; omega, HV1, HR, HM2, HB0, by simp⟩
  case round =>
    obtain ⟨l, acc, f, hf, hll, hac, HV, HF, HM, HI, hzx⟩ := hrel
    obtain ⟨f, rfl⟩ : ∃ f', f = f' + 1 := ⟨f - 1, by omega⟩
    have HAT := Lib.hid HM.out.here
    have HLL := Lib.hid (leftLen_at HAT.out)
    have hst := HF.out
    unfold valueGo at hst
    have HST := Lib.hid hst
    clear hst HF HR HA1 HM1 HM2 HB0
    go_wp2_with fail
    refine (HTQ.out l _ HAT.out).mono ?_
    intro e w3 ht
    unfold TkPost at ht
    cases hsq : stripX [39] l with
    | some r =>
      rw [hsq] at ht
      obtain ⟨rfl, hm⟩ := ht
      have HN : Hid (R = some (acc, r)) := Lib.hid (by have h := HST.out; rw [hsq] at h; exact h.symm)
      have HM3 := Lib.hid (HM.out.trans hm)
      have HI3 := Lib.hid (builder_mv HI.out hm z1)
      have z3 : w1.heap.size < w3.heap.size := Nat.lt_of_lt_of_le hzx hm.grow
      clear hm HST hsq
      go_wp2_with fail
      refine (Tryz.Builder_String_any w1.heap.size w1.heap.size acc w3 HI3.out (by omega)).mono ?_
      rintro e w4 ⟨rfl, hb⟩
      have HM4 := Lib.hid (HM3.out.high hb zz1 z1)
      clear hb
      go_wp2
      go_ret
      rw [HN.out]
      exact ⟨rfl, HM4.out⟩
    | none =>
      rw [hsq] at ht
      obtain ⟨rfl, hm⟩ := ht
      have hst := HST.out
      rw [hsq] at hst
      simp only at hst
      have HST2 := Lib.hid hst
      have HM3 := Lib.hid (HM.out.trans hm)
      have HA3 := Lib.hid hm.here
      have HI3 := Lib.hid (builder_mv HI.out hm z1)
      have z3 : w1.heap.size < w3.heap.size := Nat.lt_of_lt_of_le hzx hm.grow
      have HQN := Lib.hid hsq
      clear hm hst HST hsq hzx HI HM HAT
      go_wp2_with fail
      refine (HTA.out l _ HA3.out).mono ?_
      intro e w4 ht
      unfold TkPost at ht
      cases hsa : stripX [38] l with
      | some r =>
        rw [hsa] at ht
        obtain ⟨rfl, hm⟩ := ht
        obtain ⟨hvr, hlr⟩ := strip_valid (by decide) HV.out hsa
        simp only [List.length_cons, List.length_nil] at hlr
        have hst := HST2.out
        rw [hsa] at hst
        simp only at hst
        have HST3 := Lib.hid hst
        have HM4 := Lib.hid (HM3.out.trans hm)
        have HA4 := Lib.hid hm.here
        have HI4 := Lib.hid (builder_mv HI3.out hm z1)
        have z4 : w1.heap.size < w4.heap.size := Nat.lt_of_lt_of_le z3 hm.grow
        have HRF := Lib.hid (reference_any b r w4 HA4.out (by omega) (HE.out.mv HM4.out hb5))
        have HVR := Lib.hid hvr
        clear hm hst hsa HST2 HA3 HI3 HM3 z3 hvr
        go_wp2_with fail
        refine HRF.out.mono ?_
        intro e w5 hrf
        unfold RfPost at hrf
        cases hcf : cutF r with
        | none =>
          rw [hcf] at hrf
          obtain ⟨rfl, hm⟩ := hrf
          have HN : Hid (R = none) := Lib.hid (by have h := HST3.out; rw [hcf] at h; exact h.symm)
          have HM5 := Lib.hid (HM4.out.trans hm)
          clear hm HST3 hcf
          go_wp2
          rw [HN.out]
          exact ⟨rfl, rfl, _, HM5.out⟩
        | some x =>
          obtain ⟨m, rest⟩ := x
          rw [hcf] at hrf
          obtain ⟨rfl, hm⟩ := hrf
          have hst := HST3.out
          rw [hcf] at hst
          simp only at hst
          have HN := Lib.hid hst
          obtain ⟨c1, c2⟩ := cutF_len hcf
          have HVS := Lib.hid (cutF_valid HVR.out hcf)
          have HM5 := Lib.hid (HM4.out.trans hm)
          have HI5 := Lib.hid (builder_mv HI4.out hm z1)
          have z5 : w1.heap.size < w5.heap.size := Nat.lt_of_lt_of_le z4 hm.grow
          clear hm hst HST3 hcf HI4 HM4 HA4
          go_wp2_with fail
          refine (write_any w1.heap.size w1.heap.size (Lib.byteCells acc) (ba' m) w5 HI5.out (by rw [byteCells_len, size_ba]; omega) (by omega)).mono ?_
          rintro e w6 ⟨rfl, hI6, hb6⟩
          have HI6 : Hid (Lib.IsBuilder 99 5 w1.heap.size w1.heap.size (Lib.byteCells (acc ++ m)) w6) := Lib.hid (.inr (by
            have e1 : Lib.byteCells (acc ++ m) = Lib.byteCells acc ++ Lib.strCells (ba' m) := by rw [Lib.byteCells_append]; rfl
            rw [e1]; exact hI6))
          have HM6 := Lib.hid (HM5.out.high hb6 zz1 z1)
          have z6 : w1.heap.size < w6.heap.size := Nat.lt_of_lt_of_le z5 hb6.size
          have HL6 := Lib.hid (leftLen_at HM6.out.here)
          clear hI6 hb6
          go_wp2
          go_roundw
          case rel => exact ⟨rest, acc ++ m, f, by omega, by omega, by rw [List.length_append]; omega, HVS, HN, HM6, HI6, z6⟩
          case measure => rw [HL6.out, HLL.out]; omega
      | none =>
        rw [hsa] at ht
        obtain ⟨rfl, hm⟩ := ht
        have hst := HST2.out
        rw [hsa] at hst
        simp only at hst
        have HST3 := Lib.hid hst
        have HM4 := Lib.hid (HM3.out.trans hm)
        have HA4 := Lib.hid hm.here
        have HI4 := Lib.hid (builder_mv HI3.out hm z1)
        have z4 : w1.heap.size < w4.heap.size := Nat.lt_of_lt_of_le z3 hm.grow
        have HAN := Lib.hid hsa
        clear hm hst hsa HST2 HA3 HI3 HM3 z3
        by_cases h0 : l = []
        · have HN : Hid (R = none) := Lib.hid (by have h := HST3.out; rw [if_pos (.inl h0)] at h; exact h.symm)
          subst h0
          obtain ⟨k0, k1, k2⟩ := HA4.out
          have e0 : (ba' []).toList.isEmpty = true := by rw [toList_ba]; rfl
          clear HST3
          go_wp2_with fail
          refine (fail_any _ _).mono ?_
          rintro e w6 ⟨rfl, rfl⟩
          go_wp2
          rw [HN.out]
          exact ⟨rfl, rfl, _, HM4.out⟩
        · obtain ⟨k0, k1, k2⟩ := HA4.out
          have e0 : (ba' l).toList.isEmpty = false := by rw [toList_ba]; cases l with | nil => exact absurd rfl h0 | cons => rfl
          have HH0 := Lib.hid h0
          clear h0
          go_wp2_with fail
          refine (HAH.out l _ HA4.out).mono ?_
          rintro e w5 ⟨rfl, rfl⟩
          cases hlt : Lib.hasPrefix l [60] with
          | true =>
            have HN : Hid (R = none) := Lib.hid (by have h := HST3.out; rw [if_pos (.inr hlt)] at h; exact h.symm)
            clear HST3 hlt k0 k1 k2
            go_wp2_with fail
            refine (fail_any _ _).mono ?_
            rintro e w6 ⟨rfl, rfl⟩
            go_wp2
            rw [HN.out]
            exact ⟨rfl, rfl, _, HM4.out⟩
          | false =>
            have hst := HST3.out
            rw [if_neg (by rintro (e | e); exact HH0.out e; rw [hlt] at e; cases e)] at hst
            have hless := cutAny_less [60, 38, 39] l HH0.out (by
              intro x hx
              simp only [List.mem_cons, List.not_mem_nil, or_false] at hx
              rcases hx with rfl | rfl | rfl
              · exact hlt
              · rw [strip_has, HAN.out]; rfl
              · rw [strip_has, HQN.out]; rfl)
            obtain ⟨hcv, hcl⟩ := cutAny_valid [60, 38, 39] (by decide) l HV.out
            have hch := HCH.out l w5 HA4.out (by omega) HV.out
            obtain ⟨u, t, hut⟩ : ∃ u t, cutX l (Lib.indexAny l [60, 38, 39]) = (u, t) := ⟨_, _, rfl⟩
            rw [hut] at hst hless hcv hcl hch
            simp only at hst hless hcv hcl hch
            have HN := Lib.hid hst
            have HCV := Lib.hid hcv
            have HCC := Lib.hid hch
            have hbl : (blanksL u).length ≤ u.length := Nat.le_trans (replaceAll_len _ [10] [32] (by decide)) (replaceAll_len _ [9] [32] (by decide))
            have hcat : (⟨#[60, 38]⟩ : ByteArray) ++ ⟨#[39]⟩ = ⟨#[60, 38, 39]⟩ := by rfl
            have HBL : Hid (∀ W, Mv b t w W → Calls Tryz.prog 92 #[.string (ba' u)] W fun e w' => e = .returned (.string (ba' (blanksL u))) ∧ Below W.heap.size W w') := Lib.hid fun W hW => by
              obtain ⟨_, ⟨v, hv⟩, _⟩ := HE.out.mv hW hb5
              exact blanks_any u (by omega) v W hv
            clear hst hcv hch hut hlt k0 k1 k2 HST3
            go_wp2_with fail
            refine HCC.out.mono ?_
            rintro e w6 ⟨rfl, hm⟩
            have HM6 := Lib.hid (HM4.out.trans hm)
            have HI6 := Lib.hid (builder_mv HI4.out hm z1)
            have z6 : w1.heap.size < w6.heap.size := Nat.lt_of_lt_of_le z4 hm.grow
            clear hm HI4 HM4 HA4 HCC
            go_wp2_with fail
            refine (HBL.out _ HM6.out).mono ?_
            rintro e w7 ⟨rfl, hb⟩
            have HM7 := Lib.hid (HM6.out.below hb)
            have HI7 := Lib.hid (builder_mv HI6.out (Mv.of_below HM6.out.here hb) z1)
            have z7 : w1.heap.size < w7.heap.size := Nat.lt_of_lt_of_le z6 hb.size
            clear hb HI6 HM6 HBL
            go_wp2_with fail
            refine (write_any w1.heap.size w1.heap.size (Lib.byteCells acc) (ba' (blanksL u)) w7 HI7.out (by rw [byteCells_len, size_ba]; omega) (by omega)).mono ?_
            rintro e w8 ⟨rfl, hI8, hb8⟩
            have HI8 : Hid (Lib.IsBuilder 99 5 w1.heap.size w1.heap.size (Lib.byteCells (acc ++ blanksL u)) w8) := Lib.hid (.inr (by
              have e1 : Lib.byteCells (acc ++ blanksL u) = Lib.byteCells acc ++ Lib.strCells (ba' (blanksL u)) := by rw [Lib.byteCells_append]; rfl
              rw [e1]; exact hI8))
            have HM8 := Lib.hid (HM7.out.high hb8 zz1 z1)
            have z8 : w1.heap.size < w8.heap.size := Nat.lt_of_lt_of_le z7 hb8.size
            have HL8 := Lib.hid (leftLen_at HM8.out.here)
            clear hI8 hb8 hcat
            go_wp2
            go_roundw
            case rel => exact ⟨t, acc ++ blanksL u, f, by omega, by omega, by rw [List.length_append]; omega, HCV, HN, HM8, HI8, z8⟩
            case measure => rw [HL8.out, HLL.out]; omega
end Go.Proofs.YtpdaldpaceolnaaGreatDoor
namespace Go.Proofs.YtpdaldpaceolnaaGreatDoor
open Go.RowKit Go.Lib
set_option maxRecDepth 100000
set_option maxHeartbeats 8000000
theorem idx_valid (l : List UInt8) : ∀ (f pos : Nat), pos ≤ l.length → validX (l.drop pos) = true → Lib.idxFuncFrom noName true (ba' l) f pos = -1 ∨ validX (l.drop (Lib.idxFuncFrom noName true (ba' l) f pos).toNat) = true
  | 0, _, _, _ => .inl rfl
  | f + 1, pos, hp, hv => by
    unfold Lib.idxFuncFrom
    by_cases hlt : pos < (ba' l).size
    · rw [if_pos hlt]
      rw [size_ba] at hlt
      have hne : l.drop pos ≠ [] := by rw [ne_eq, List.drop_eq_nil_iff]; omega
      obtain ⟨r, hr, _, e, hd, hv2⟩ := vx_cut _ hne hv
      have hdec : Utf8.decode (ba' l) pos = (r, (enc r).length) := by
        rw [← decodeL_drop (ba' l) pos]
        exact hd
      rw [hdec]
      simp only
      split
      · right
        rw [Int.toNat_natCast]
        exact hv
      · have hle : pos + (enc r).length ≤ l.length := by
          have h := congrArg List.length e
          rw [List.length_append, List.length_drop, List.length_drop] at h
          omega
        exact idx_valid l f (pos + (enc r).length) hle (by rw [← List.drop_drop]; exact hv2)
    · rw [if_neg hlt]
      exact .inl rfl
theorem nameX_ne {n : List UInt8} (h : nameX n = true) : 0 < n.length := by
  cases n with
  | nil => rw [show nameX [] = false by kernel_rfl] at h; cases h
  | cons => simp
theorem name_valid {l n r : List UInt8} (hv : validX l = true) (h : nameL l = some (n, r)) : validX r = true ∧ n.length + r.length = l.length ∧ 0 < n.length ∧ nameX n = true := by
  unfold nameL at h
  split at h
  · rename_i hn
    have h' := Option.some.inj h
    have hk := Lib.idxFunc_range noName true (ba' l)
    rw [size_ba] at hk
    have hiv := idx_valid l (ba' l).size 0 (Nat.zero_le _) (by rw [List.drop_zero]; exact hv)
    rw [show Lib.idxFuncFrom noName true (ba' l) (ba' l).size 0 = Lib.idxFunc noName true (ba' l) from rfl] at hiv
    obtain ⟨k, hkk⟩ : ∃ k, Lib.idxFunc noName true (ba' l) = k := ⟨_, rfl⟩
    rw [hkk] at h' hn hk hiv
    rw [h'] at hn
    simp only at hn
    have hpos := nameX_ne hn
    unfold cutX at h'
    split at h'
    · rename_i h0
      cases h'
      exact ⟨validX_nil, by simp, hpos, hn⟩
    · rename_i h0
      cases h'
      refine ⟨?_, by rw [List.length_take, List.length_drop]; omega, hpos, hn⟩
      rcases hiv with h | h
      · omega
      · exact h
  · cases h
theorem valueGo_valid (q : UInt8) (hq : q.toNat < 128) : ∀ (f : Nat) (l acc v r : List UInt8), validX l = true → valueGo q f l acc = some (v, r) → validX r = true ∧ r.length < l.length
  | 0, _, _, _, _, _, h => by cases h
  | f + 1, l, acc, v, r, hv, h => by
    unfold valueGo at h
    cases h1 : stripX [q] l with
    | some r1 =>
      rw [h1] at h
      simp only [Option.some.injEq, Prod.mk.injEq] at h
      obtain ⟨rfl, rfl⟩ := h
      obtain ⟨a, b⟩ := strip_valid (by intro x hx; simp at hx; rw [hx]; exact hq) hv h1
      simp only [List.length_cons, List.length_nil] at b
      exact ⟨a, by omega⟩
    | none =>
      rw [h1] at h
      simp only at h
      cases h2 : stripX [38] l with
      | some r1 =>
        rw [h2] at h
        simp only at h
        obtain ⟨a, b⟩ := strip_valid (by decide) hv h2
        simp only [List.length_cons, List.length_nil] at b
        cases h3 : cutF r1 with
        | none => rw [h3] at h; cases h
        | some x =>
          obtain ⟨m, rest⟩ := x
          rw [h3] at h
          simp only at h
          obtain ⟨c1, _⟩ := cutF_len h3
          obtain ⟨d1, d2⟩ := valueGo_valid q hq f rest _ v r (cutF_valid a h3) h
          exact ⟨d1, by omega⟩
      | none =>
        rw [h2] at h
        simp only at h
        split at h
        · cases h
        · have ha : ∀ x ∈ ([60, 38, q] : List UInt8), x.toNat < 128 := by
            intro x hx
            simp only [List.mem_cons, List.not_mem_nil, or_false] at hx
            rcases hx with rfl | rfl | rfl
            · decide
            · decide
            · exact hq
          obtain ⟨a, b⟩ := cutAny_valid [60, 38, q] ha l hv
          obtain ⟨d1, d2⟩ := valueGo_valid q hq f _ _ v r a h
          exact ⟨d1, by omega⟩
theorem value_valid {l v r : List UInt8} (hv : validX l = true) (h : valueL l = some (v, r)) : validX r = true ∧ r.length < l.length := by
  unfold valueL at h
  cases h1 : stripX [34] l with
  | some r1 =>
    rw [h1] at h
    obtain ⟨a, b⟩ := strip_valid (by decide) hv h1
    obtain ⟨c, d⟩ := valueGo_valid 34 (by decide) _ _ _ v r a h
    exact ⟨c, by omega⟩
  | none =>
    rw [h1] at h
    simp only at h
    cases h2 : stripX [39] l with
    | some r1 =>
      rw [h2] at h
      obtain ⟨a, b⟩ := strip_valid (by decide) hv h2
      obtain ⟨c, d⟩ := valueGo_valid 39 (by decide) _ _ _ v r a h
      exact ⟨c, by omega⟩
    | none => rw [h2] at h; cases h
theorem rvalue_any (b : Nat) (l : List UInt8) (w : World) (h : At w b l) (hl : l.length ≤ 100000) (hv : validX l = true) (hE : Env w) (hb5 : 5 ≤ b) : Calls Tryz.prog 73 #[.pointer (some ⟨b, 0, none⟩)] w (VlPost b l w) := by
  unfold VlPost valueL
  cases h1 : stripX [34] l with
  | some r => exact value_34 b l r w h hl hv hE hb5 h1 _ rfl
  | none =>
    cases h2 : stripX [39] l with
    | some r => exact value_39 b l r w h hl hv hE hb5 h1 h2 _ rfl
    | none =>
      have ht := take_any b l [34] w h
      unfold TkPost at ht
      rw [h1] at ht
      have HT : Hid (Calls Tryz.prog 47 #[.pointer (some ⟨b, 0, none⟩), .string ⟨#[34]⟩] w fun e w' => e = .returned (.bool false) ∧ Mv b l w w') := Lib.hid ht
      have HN : Hid (∀ W, At W b l → Calls Tryz.prog 49 #[.pointer (some ⟨b, 0, none⟩), .string ⟨#[39]⟩] W fun e w' => e = GU 61 ∧ Mv b l W w') := Lib.hid fun W hW => by
        have h := need_any b l [39] W hW
        unfold NdPost at h
        rw [h2] at h
        exact h
      clear ht h1 h2 hE h hv
      go_enter Tryz.func73, Tryz.ntmps73
      go_wp2_with fail
      refine HT.out.mono ?_
      rintro e w1 ⟨rfl, hm⟩
      have HM1 := Lib.hid hm
      clear hm
      go_wp2_with fail
      refine (HN.out _ HM1.out.here).mono ?_
      rintro e w2 ⟨rfl, hm⟩
      have HM2 := Lib.hid (HM1.out.trans hm)
      clear hm
      go_wp2
      exact ⟨rfl, rfl, _, HM2.out⟩
end Go.Proofs.YtpdaldpaceolnaaGreatDoor
