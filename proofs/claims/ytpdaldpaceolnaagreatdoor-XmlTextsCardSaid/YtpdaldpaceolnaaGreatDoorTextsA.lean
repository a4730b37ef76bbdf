/- Any text within an element, in plain words. No condition beyond what the theorems state. -/
import Derived.Test.YtpdaldpaceolnaaGreatDoorCuts
import Derived.Test.YtpdaldpaceolnaaGreatDoorSigns
namespace Go.Proofs.YtpdaldpaceolnaaGreatDoor
open Go.RowKit Go.Lib
set_option maxRecDepth 100000
set_option maxHeartbeats 4000000
/-- A byte as it is written between tags. -/
def wrT (b : UInt8) : List UInt8 := if b = 38 then [38, 97, 109, 112, 59] else if b = 60 then [38, 35, 54, 48, 59] else if b = 62 then [38, 35, 120, 51, 101, 59] else if b = 13 then [38, 35, 49, 51, 59] else [b]
/-- A byte as it is written in a value. -/
def wrV (b : UInt8) : List UInt8 := if b = 34 then [38, 113, 117, 111, 116, 59] else if b = 9 then [38, 35, 57, 59] else if b = 10 then [38, 35, 120, 65, 59] else wrT b
theorem ref_read {body m : List UInt8} (h : cutF (body ++ [59]) = some (m, [])) (z : List UInt8) : cutF (body ++ 59 :: z) = some (m, z) := by
  obtain ⟨b', e, hz⟩ := cutF_split h
  have : body = b' := by
    have := List.append_inj_left' e rfl
    exact this
  subst this
  exact hz z
theorem blanksL_cons {b : UInt8} (h9 : b ≠ 9) (h10 : b ≠ 10) (u : List UInt8) : blanksL (b :: u) = b :: blanksL u := by
  unfold blanksL
  rw [all_miss b u [9] [32] (by decide) (by decide) (by simp [List.isPrefixOf]; exact Ne.symm h9), all_miss b _ [10] [32] (by decide) (by decide) (by simp [List.isPrefixOf]; exact Ne.symm h10)]
theorem blanksL_nil : blanksL [] = [] := by
  unfold blanksL
  rw [all_nil _ _ (by decide) (by decide), all_nil _ _ (by decide) (by decide)]
/-- A plain byte more in a value. -/
theorem value_step {b : UInt8} (hb : b ≠ 60 ∧ b ≠ 38 ∧ b ≠ 34 ∧ b ≠ 9 ∧ b ≠ 10) {l acc : List UInt8} {R : Option (List UInt8 × List UInt8)} (hl : ∃ u c y, l = u ++ c :: y ∧ ([60, 38, 34] : List UInt8).contains c = true ∧ (∀ x ∈ u, ([60, 38, 34] : List UInt8).contains x = false)) (h : ∀ f, l.length < f → valueGo 34 f l (acc ++ [b]) = R) : ∀ f, (b :: l).length < f → valueGo 34 f (b :: l) acc = R := by
  intro f hf
  obtain ⟨g, rfl⟩ : ∃ k, f = k + 1 := ⟨f - 1, by omega⟩
  obtain ⟨h60, h38, h34, h9, h10⟩ := hb
  obtain ⟨u, c, y, rfl, hc, hu⟩ := hl
  have hbc : ∀ x ∈ b :: u, ([60, 38, 34] : List UInt8).contains x = false := fun x hx => by
    rcases List.mem_cons.1 hx with rfl | hx
    · simp [h60, h38, h34]
    · exact hu x hx
  have e1 : valueGo 34 (g + 1) (b :: (u ++ c :: y)) acc = valueGo 34 g (c :: y) (acc ++ blanksL (b :: u)) := by
    rw [valueGo, strip_no [] _ (Ne.symm h34), strip_no [] _ (Ne.symm h38)]
    simp only
    rw [if_neg (by rw [has_no [] _ (Ne.symm h60)]; simp), show b :: (u ++ c :: y) = (b :: u) ++ c :: y from rfl, any_at [60, 38, 34] hc y (b :: u) hbc, cut_here]
  rw [e1, blanksL_cons h9 h10]
  cases u with
  | nil =>
    rw [blanksL_nil]
    exact h g (by simp at hf ⊢; omega)
  | cons d u =>
    have hd := hu d (.head _)
    have hd3 : d ≠ 60 ∧ d ≠ 38 ∧ d ≠ 34 := by simpa using hd
    have := h (g + 1) (by simp at hf ⊢; omega)
    rw [show d :: u ++ c :: y = d :: (u ++ c :: y) from rfl, valueGo, strip_no [] _ (Ne.symm hd3.2.2), strip_no [] _ (Ne.symm hd3.2.1)] at this
    simp only at this
    rw [if_neg (by rw [has_no [] _ (Ne.symm hd3.1)]; simp), show d :: (u ++ c :: y) = (d :: u) ++ c :: y from rfl, any_at [60, 38, 34] hc y (d :: u) hu, cut_here] at this
    simp only at this
    rw [← this]
    simp
theorem value_ref {body m l acc : List UInt8} {R : Option (List UInt8 × List UInt8)} (hr : cutF (body ++ [59]) = some (m, [])) (h : ∀ f, l.length < f → valueGo 34 f l (acc ++ m) = R) : ∀ f, (38 :: (body ++ 59 :: l)).length < f → valueGo 34 f (38 :: (body ++ 59 :: l)) acc = R := by
  intro f hf
  obtain ⟨g, rfl⟩ : ∃ k, f = k + 1 := ⟨f - 1, by omega⟩
  rw [valueGo, strip_no [] _ (by decide)]
  simp only [strip1]
  rw [ref_read hr]
  exact h g (by simp at hf; omega)
/-- What is written of a text in a value holds a sign that ends it. -/
theorem wrV_parts (s z : List UInt8) : ∃ u c y, s.flatMap wrV ++ 34 :: z = u ++ c :: y ∧ ([60, 38, 34] : List UInt8).contains c = true ∧ (∀ x ∈ u, ([60, 38, 34] : List UInt8).contains x = false) := by
  rcases any_parts [60, 38, 34] (s.flatMap wrV ++ 34 :: z) with h | h
  · exfalso
    have hm : (34 : UInt8) ∈ s.flatMap wrV ++ 34 :: z := List.mem_append_right _ (.head _)
    obtain ⟨l, hl⟩ : ∃ l, s.flatMap wrV ++ 34 :: z = l := ⟨_, rfl⟩
    rw [hl] at h hm
    clear hl
    induction l with
    | nil => cases hm
    | cons a l ih =>
      unfold Lib.indexAny at h
      split at h
      · omega
      · rename_i ha
        split at h
        · rename_i h9
          rcases List.mem_cons.1 hm with rfl | hm
          · exact ha (by decide)
          · exact ih hm (by simpa using h9)
        · rename_i h9
          have := Lib.indexAny_ge [60, 38, 34] l
          have h10 : Lib.indexAny l [60, 38, 34] ≠ -1 := by simpa using h9
          omega
  · exact h
theorem wr_value (z : List UInt8) : ∀ (s acc : List UInt8), ∀ f, (s.flatMap wrV ++ 34 :: z).length < f → valueGo 34 f (s.flatMap wrV ++ 34 :: z) acc = some (acc ++ s, z)
  | [], acc, f, hf => by
    obtain ⟨g, rfl⟩ : ∃ k, f = k + 1 := ⟨f - 1, by omega⟩
    rw [List.flatMap_nil, List.nil_append, valueGo, strip1, List.append_nil]
  | b :: s, acc, f, hf => by
    have ih := wr_value z s (acc ++ [b])
    have ref : ∀ body : List UInt8, cutF (body ++ [59]) = some ([b], []) → wrV b = 38 :: (body ++ [59]) → valueGo 34 f ((b :: s).flatMap wrV ++ 34 :: z) acc = some (acc ++ b :: s, z) := fun body hr hw => by
      have e : (b :: s).flatMap wrV ++ 34 :: z = 38 :: (body ++ 59 :: (s.flatMap wrV ++ 34 :: z)) := by rw [List.flatMap_cons, hw]; simp
      rw [e] at hf ⊢
      refine value_ref hr (fun g hg => ?_) f hf
      rw [ih g hg]; simp
    by_cases h34 : b = 34
    · subst h34; exact ref [113, 117, 111, 116] (by kernel_rfl) rfl
    by_cases h9 : b = 9
    · subst h9; exact ref [35, 57] (by kernel_rfl) rfl
    by_cases h10 : b = 10
    · subst h10; exact ref [35, 120, 65] (by kernel_rfl) rfl
    by_cases h38 : b = 38
    · subst h38; exact ref [97, 109, 112] (by kernel_rfl) rfl
    by_cases h60 : b = 60
    · subst h60; exact ref [35, 54, 48] (by kernel_rfl) rfl
    by_cases h62 : b = 62
    · subst h62; exact ref [35, 120, 51, 101] (by kernel_rfl) rfl
    by_cases h13 : b = 13
    · subst h13; exact ref [35, 49, 51] (by kernel_rfl) rfl
    have hw : wrV b = [b] := by
      unfold wrV wrT
      rw [if_neg h34, if_neg h9, if_neg h10, if_neg h38, if_neg h60, if_neg h62, if_neg h13]
    have e : (b :: s).flatMap wrV ++ 34 :: z = b :: (s.flatMap wrV ++ 34 :: z) := by rw [List.flatMap_cons, hw]; rfl
    rw [e] at hf ⊢
    refine value_step ⟨h60, h38, h34, h9, h10⟩ (wrV_parts s z) (fun g hg => ?_) f hf
    rw [ih g hg]; simp
/-- Ahead of the first sign that parts characters there is no sign >. -/
def Clean (l : List UInt8) : Prop := ∃ u c y, l = u ++ c :: y ∧ ([60, 38] : List UInt8).contains c = true ∧ (∀ x ∈ u, ([60, 38] : List UInt8).contains x = false ∧ x ≠ 62)
theorem clean_no (u : List UInt8) (h : ∀ x ∈ u, x ≠ 62) : Lib.contains u [93, 93, 62] = false := by
  have hi : Lib.index u [93, 93, 62] = -1 := by
    rcases Lib.index_spec u [93, 93, 62] with ⟨h1, _⟩ | ⟨i, _, _, h3, _⟩
    · exact h1
    · exfalso
      unfold Lib.occAt at h3
      obtain ⟨t, ht⟩ := List.isPrefixOf_iff_prefix.1 h3
      exact h 62 (List.mem_of_mem_drop (i := i) (by rw [← ht]; simp)) rfl
  unfold Lib.contains
  rw [hi]
  rfl
theorem text_step {b : UInt8} (hb : b ≠ 60 ∧ b ≠ 38 ∧ b ≠ 62) {l acc : List UInt8} {R : Option (List UInt8 × List UInt8)} (hl : Clean l) (h : ∀ f, l.length < f → textGo f l (acc ++ [b]) = R) : ∀ f, (b :: l).length < f → textGo f (b :: l) acc = R := by
  intro f hf
  obtain ⟨g, rfl⟩ : ∃ k, f = k + 1 := ⟨f - 1, by omega⟩
  obtain ⟨h60, h38, h62⟩ := hb
  obtain ⟨u, c, y, rfl, hc, hu⟩ := hl
  have hbc : ∀ x ∈ b :: u, ([60, 38] : List UInt8).contains x = false := fun x hx => by
    rcases List.mem_cons.1 hx with rfl | hx
    · simp [h60, h38]
    · exact (hu x hx).1
  have hb62 : ∀ x ∈ b :: u, x ≠ 62 := fun x hx => by
    rcases List.mem_cons.1 hx with rfl | hx
    · exact h62
    · exact (hu x hx).2
  have e1 : textGo (g + 1) (b :: (u ++ c :: y)) acc = textGo g (c :: y) (acc ++ b :: u) := by
    rw [textGo, cdata_no _ h60, strip_no [] _ (Ne.symm h38)]
    simp only
    rw [if_neg (by rw [has_no [] _ (Ne.symm h60)]; simp), show b :: (u ++ c :: y) = (b :: u) ++ c :: y from rfl, any_at [60, 38] hc y (b :: u) hbc, cut_here]
    simp only
    rw [clean_no _ hb62, if_neg (by decide)]
  rw [e1]
  cases u with
  | nil => exact h g (by simp at hf ⊢; omega)
  | cons d u =>
    have hd := (hu d (.head _)).1
    have hd3 : d ≠ 60 ∧ d ≠ 38 := by simpa using hd
    have := h (g + 1) (by simp at hf ⊢; omega)
    rw [show d :: u ++ c :: y = d :: (u ++ c :: y) from rfl, textGo, cdata_no _ hd3.1, strip_no [] _ (Ne.symm hd3.2)] at this
    simp only at this
    rw [if_neg (by rw [has_no [] _ (Ne.symm hd3.1)]; simp), show d :: (u ++ c :: y) = (d :: u) ++ c :: y from rfl, any_at [60, 38] hc y (d :: u) (fun x hx => (hu x hx).1), cut_here] at this
    simp only at this
    rw [clean_no _ (fun x hx => (hu x hx).2), if_neg (by decide)] at this
    rw [← this]
    simp
theorem text_ref {body m l acc : List UInt8} {R : Option (List UInt8 × List UInt8)} (hr : cutF (body ++ [59]) = some (m, [])) (h : ∀ f, l.length < f → textGo f l (acc ++ m) = R) : ∀ f, (38 :: (body ++ 59 :: l)).length < f → textGo f (38 :: (body ++ 59 :: l)) acc = R := by
  intro f hf
  obtain ⟨g, rfl⟩ : ∃ k, f = k + 1 := ⟨f - 1, by omega⟩
  rw [textGo, cdata_no _ (by decide)]
  simp only [strip1]
  rw [ref_read hr]
  exact h g (by simp at hf; omega)
theorem wr_text (z : List UInt8) : ∀ (s : List UInt8), Clean (s.flatMap wrT ++ 60 :: 47 :: z) ∧ ∀ (acc : List UInt8), ∀ f, (s.flatMap wrT ++ 60 :: 47 :: z).length < f → textGo f (s.flatMap wrT ++ 60 :: 47 :: z) acc = some (acc ++ s, 60 :: 47 :: z)
  | [] => by
    refine ⟨⟨[], 60, 47 :: z, rfl, by decide, fun x hx => by cases hx⟩, fun acc f hf => ?_⟩
    obtain ⟨g, rfl⟩ : ∃ k, f = k + 1 := ⟨f - 1, by omega⟩
    rw [List.flatMap_nil, List.nil_append, textGo_stop (stop_other z (by decide)), List.append_nil]
  | b :: s => by
    obtain ⟨hcl, ih⟩ := wr_text z s
    have ref : ∀ body : List UInt8, cutF (body ++ [59]) = some ([b], []) → wrT b = 38 :: (body ++ [59]) → Clean ((b :: s).flatMap wrT ++ 60 :: 47 :: z) ∧ ∀ (acc : List UInt8), ∀ f, ((b :: s).flatMap wrT ++ 60 :: 47 :: z).length < f → textGo f ((b :: s).flatMap wrT ++ 60 :: 47 :: z) acc = some (acc ++ b :: s, 60 :: 47 :: z) := fun body hr hw => by
      have e : (b :: s).flatMap wrT ++ 60 :: 47 :: z = 38 :: (body ++ 59 :: (s.flatMap wrT ++ 60 :: 47 :: z)) := by rw [List.flatMap_cons, hw]; simp
      rw [e]
      refine ⟨⟨[], 38, _, rfl, by decide, fun x hx => by cases hx⟩, fun acc f hf => ?_⟩
      refine text_ref hr (fun g hg => ?_) f hf
      rw [ih _ g hg]; simp
    by_cases h38 : b = 38
    · subst h38; exact ref [97, 109, 112] (by kernel_rfl) rfl
    by_cases h60 : b = 60
    · subst h60; exact ref [35, 54, 48] (by kernel_rfl) rfl
    by_cases h62 : b = 62
    · subst h62; exact ref [35, 120, 51, 101] (by kernel_rfl) rfl
    by_cases h13 : b = 13
    · subst h13; exact ref [35, 49, 51] (by kernel_rfl) rfl
    have hw : wrT b = [b] := by
      unfold wrT
      rw [if_neg h38, if_neg h60, if_neg h62, if_neg h13]
    have e : (b :: s).flatMap wrT ++ 60 :: 47 :: z = b :: (s.flatMap wrT ++ 60 :: 47 :: z) := by rw [List.flatMap_cons, hw]; rfl
    rw [e]
    constructor
    · obtain ⟨u, c, y, he, hc, hu⟩ := hcl
      refine ⟨b :: u, c, y, by rw [he]; rfl, hc, fun x hx => ?_⟩
      rcases List.mem_cons.1 hx with rfl | hx
      · exact ⟨by simp [h60, h38], h62⟩
      · exact hu x hx
    · intro acc f hf
      refine text_step ⟨h60, h38, h62⟩ hcl (fun g hg => ?_) f hf
      rw [ih _ g hg]; simp
end Go.Proofs.YtpdaldpaceolnaaGreatDoor
namespace Go.Proofs.YtpdaldpaceolnaaGreatDoor
open Go.RowKit Go.Lib
set_option maxRecDepth 100000
set_option maxHeartbeats 4000000
theorem name_runes {n : List UInt8} (h : nameX n = true) : ∀ r ∈ runes n, okP 1 r := by
  unfold nameX at h
  rw [Bool.and_eq_true] at h
  have h2 := h.2
  unfold nameB at h2
  rw [Bool.and_eq_true, List.all_eq_true] at h2
  intro r hr
  obtain ⟨k, hk, rfl⟩ := List.mem_iff_getElem.1 hr
  have h3 := h2.2 k (List.mem_range.2 hk)
  simp only [decide_eq_true_eq, List.getD_eq_getElem?_getD, List.getElem?_eq_getElem hk, Option.getD_some] at h3
  rcases h3 with h3 | ⟨_, h3⟩
  · exact .inl h3
  · exact .inr ⟨by decide, h3⟩
theorem noName_false {r : Nat} (hr : runeOk r) (hx : xmlN r = true) (h : okP 1 r) : noName r = false := by
  unfold noName
  have e : ((⟨#[95]⟩ : ByteArray) ++ Utf8.encode (r : Int)).data.toList = 95 :: enc r := by
    rw [ByteArray.data_append, Array.toList_append, enc_utf8 r hr]
    rfl
  rw [e]
  have hv : validX (95 :: enc r) = true := vx_app (a := [95]) (by kernel_rfl) (validX_enc r hr hx)
  have hrn : runes (95 :: enc r) = [95, r] := by
    have h1 := runes_step (95 :: enc r) (by simp)
    rw [decodeL_ascii 95 (enc r) (by decide)] at h1
    rw [h1]
    have hne : enc r ≠ [] := by
      have := enc_pos r hr
      intro e
      rw [e] at this
      simp at this
    have h2 := runes_step (enc r) hne
    have h3 := decode_enc r hr []
    rw [List.append_nil] at h3
    rw [h3] at h2
    show _ :: runes (enc r) = _
    rw [h2]
    show _ :: r :: runes ((enc r).drop (enc r).length) = _
    rw [List.drop_length, runes_nil]
    rfl
  unfold nameX
  rw [hv, hrn, nameB_true (by simp) ?_]
  · rfl
  · intro k hk
    match k, hk with
    | 0, _ => left; show letterP 95; decide
    | 1, _ => exact h
    | k + 2, hk => exact absurd (show k + 2 < 2 from hk) (by omega)
theorem idx_fwd (n : List UInt8) (c : UInt8) (z : List UInt8) (hc : c.toNat < 128) (hcn : noName c.toNat = true) : ∀ (g pos : Nat), pos ≤ n.length → validX (n.drop pos) = true → (∀ r ∈ runes (n.drop pos), okP 1 r) → n.length - pos < g → Lib.idxFuncFrom noName true (ba' (n ++ c :: z)) g pos = (n.length : Int)
  | 0, _, _, _, _, h => by omega
  | g + 1, pos, hp, hv, hok, hg => by
    have s2 : pos < (ba' (n ++ c :: z)).size := by rw [size_ba, List.length_append, List.length_cons]; omega
    rw [Lib.idxFuncFrom, if_pos s2]
    by_cases hpe : pos = n.length
    · subst hpe
      have d : Utf8.decode (ba' (n ++ c :: z)) n.length = (c.toNat, 1) := by
        rw [← decodeL_drop (ba' (n ++ c :: z)) n.length]
        show decodeL ((n ++ c :: z).drop n.length) = _
        rw [List.drop_left]
        exact decodeL_ascii c z hc
      rw [d]
      simp only
      rw [if_pos hcn]
    · have hne : n.drop pos ≠ [] := by rw [ne_eq, List.drop_eq_nil_iff]; omega
      obtain ⟨x, hx, hxm, e, hdd, hv2⟩ := vx_cut _ hne hv
      have hxp := enc_pos x hx
      have hle : pos + (enc x).length ≤ n.length := by
        have := congrArg List.length e
        rw [List.length_append, List.length_drop, List.length_drop] at this
        omega
      have d : Utf8.decode (ba' (n ++ c :: z)) pos = (x, (enc x).length) := by
        rw [← decodeL_drop (ba' (n ++ c :: z)) pos]
        show decodeL ((n ++ c :: z).drop pos) = _
        rw [List.drop_append_of_le_length hp, e, List.append_assoc]
        exact decode_enc x hx _
      have hrs := runes_step (n.drop pos) hne
      rw [hdd] at hrs
      simp only at hrs
      have hnf := noName_false hx hxm (hok x (by rw [hrs]; exact .head _))
      rw [d]
      simp only
      rw [if_neg (by rw [hnf]; decide)]
      exact idx_fwd n c z hc hcn g (pos + (enc x).length) hle (by rw [← List.drop_drop]; exact hv2) (fun r hr => hok r (by rw [hrs, List.drop_drop]; exact .tail _ hr)) (by omega)
theorem name_fwd {n : List UInt8} (h : nameX n = true) (z : List UInt8) : nameL (n ++ 32 :: z) = some (n, 32 :: z) := by
  have hk : Lib.idxFunc noName true (ba' (n ++ 32 :: z)) = (n.length : Int) := by
    unfold Lib.idxFunc
    exact idx_fwd n 32 z (by decide) (by decide +kernel) _ 0 (Nat.zero_le _) (name_isValid h) (name_runes h) (by rw [size_ba, List.length_append, List.length_cons]; omega)
  unfold nameL
  rw [hk, cut_here]
  simp only
  rw [if_pos h]
/-- A byte below 128 of a valid text is one of its runes. -/
theorem low_rune : ∀ (k : Nat) (l : List UInt8), l.length ≤ k → validX l = true → ∀ x ∈ l, x.toNat < 128 → x.toNat ∈ runes l
  | 0, l, hk, _, x, hx, _ => by
    have : l = [] := List.length_eq_zero_iff.1 (by omega)
    rw [this] at hx
    cases hx
  | k + 1, l, hk, hv, x, hx, hlo => by
    have hne : l ≠ [] := by rintro rfl; cases hx
    obtain ⟨r, hr, _, e, hd, hv2⟩ := vx_cut l hne hv
    have hrs := runes_step l hne
    rw [hd] at hrs
    simp only at hrs
    have hp := enc_pos r hr
    rw [hrs]
    rw [e] at hx
    rcases List.mem_append.1 hx with hx | hx
    · by_cases h127 : 127 < r
      · have := enc_high r hr h127 x hx
        omega
      · rw [encZ r hr, if_pos (by omega)] at hx
        have hxe := List.mem_singleton.1 hx
        have : x.toNat = r := by
          rw [hxe]
          show (UInt8.ofNat r).toNat = r
          rw [UInt8.toNat_ofNat']
          omega
        rw [this]
        exact .head _
    · refine .tail _ (low_rune k _ ?_ hv2 x hx hlo)
      have hn := List.length_pos_iff.2 hne
      rw [List.length_drop]
      omega
theorem name_no13 {n : List UInt8} (h : nameX n = true) : ∀ x ∈ n, x ≠ 13 := by
  rintro x hx rfl
  have h1 := low_rune n.length n (Nat.le_refl _) (name_isValid h) 13 hx (by decide)
  have h2 := name_runes h _ h1
  revert h2
  decide
theorem wrT_no13 (b : UInt8) : ∀ x ∈ wrT b, x ≠ 13 := by
  intro x hx
  unfold wrT at hx
  repeat' split at hx
  any_goals (revert x; decide)
  rename_i h13
  rw [List.mem_singleton.1 hx]
  exact h13
theorem wrV_no13 (b : UInt8) : ∀ x ∈ wrV b, x ≠ 13 := by
  intro x hx
  unfold wrV at hx
  repeat' split at hx
  all_goals first | (exact wrT_no13 b x hx) | (revert x; decide)
theorem attrs_end (f : Nat) (z : List UInt8) (acc : List (List UInt8 × List UInt8)) : attrsGo (f + 1) (62 :: z) acc = some (acc, 62 :: z) := by
  have h : trimX (62 :: z) = 62 :: z := trim_own _ (by decide)
  rw [attrsGo, h]
  simp
def textsL (nm s : List UInt8) : List UInt8 := 60 :: (nm ++ 32 :: (nm ++ 32 :: 61 :: 32 :: 34 :: (s.flatMap wrV ++ 34 :: 62 :: (s.flatMap wrT ++ 60 :: 47 :: (nm ++ [32, 62])))))
theorem texts_lines (nm s : List UInt8) (hn : nameX nm = true) : linesF (textsL nm s) = textsL nm s := by
  refine lines_same _ ?_
  intro x hx
  have h1 := name_no13 hn
  have hT : ∀ x ∈ s.flatMap wrT, x ≠ 13 := fun x hx => by
    obtain ⟨b, _, hb⟩ := List.mem_flatMap.1 hx
    exact wrT_no13 b x hb
  have hV : ∀ x ∈ s.flatMap wrV, x ≠ 13 := fun x hx => by
    obtain ⟨b, _, hb⟩ := List.mem_flatMap.1 hx
    exact wrV_no13 b x hb
  unfold textsL at hx
  simp only [List.mem_cons, List.mem_append, List.not_mem_nil, or_false] at hx
  rcases hx with rfl | hx | rfl | hx | rfl | rfl | rfl | rfl | hx | rfl | rfl | hx | rfl | rfl | hx | rfl | rfl
  any_goals decide
  · exact h1 x hx
  · exact h1 x hx
  · exact hV x hx
  · exact hT x hx
  · exact h1 x hx
/-- P8.1 of any text within an element of any name: the plain fact. -/
theorem texts_doc (nm s : List UInt8) (hn : nameX nm = true) : docF (linesF (textsL nm s)) = .ok (.mk 1 [] [] [] [.mk 2 nm [] [(nm, s)] (textK s)]) [] := by
  rw [texts_lines nm s hn]
  obtain ⟨n0, n', rfl⟩ : ∃ n0 n', nm = n0 :: n' := List.exists_cons_of_ne_nil (by intro h0; subst h0; rw [nameX_nil] at hn; cases hn)
  have n47 : (47 : UInt8) ≠ n0 := name_not hn 47 (by decide) (by decide)
  have n33 : (33 : UInt8) ≠ n0 := name_not hn 33 (by decide) (by decide)
  have n62 : (62 : UInt8) ≠ n0 := name_not hn 62 (by decide) (by decide)
  have n9 : (9 : UInt8) ≠ n0 := name_not hn 9 (by decide) (by decide)
  have n10 : (10 : UInt8) ≠ n0 := name_not hn 10 (by decide) (by decide)
  have n32 : (32 : UInt8) ≠ n0 := name_not hn 32 (by decide) (by decide)
  have hsp : spX.contains n0 = false := by
    unfold spX
    simp [Ne.symm n9, Ne.symm n10, Ne.symm n32]
  obtain ⟨nm, hnm⟩ : ∃ nm, n0 :: n' = nm := ⟨_, rfl⟩
  have htn : ∀ y, trimX (nm ++ y) = nm ++ y := fun y => by rw [← hnm]; exact trim_own _ hsp
  have hp1 : ∀ y, Lib.hasPrefix (nm ++ y) [47, 62] = false := fun y => by rw [← hnm]; exact has_no _ _ n47
  have hp2 : ∀ y, Lib.hasPrefix (nm ++ y) [62] = false := fun y => by rw [← hnm]; exact has_no _ _ n62
  have hbeg : EBeg (textsL nm s) := by rw [← hnm]; exact ⟨n0, _, rfl, Ne.symm n33⟩
  rw [hnm] at hn ⊢
  unfold textsL at hbeg ⊢
  obtain ⟨Z, hZ⟩ : ∃ Z, nm ++ [32, 62] = Z := ⟨_, rfl⟩
  rw [hZ] at hbeg ⊢
  obtain ⟨Y, hY⟩ : ∃ Y, s.flatMap wrT ++ 60 :: 47 :: Z = Y := ⟨_, rfl⟩
  have hYt : textL Y = some (textK s, 60 :: 47 :: Z) := by
    unfold textL
    rw [← hY, (wr_text Z s).2 [] _ (by omega)]
    rfl
  rw [hY] at hbeg ⊢
  have p1 : outL (60 :: (nm ++ 32 :: (nm ++ 32 :: 61 :: 32 :: 34 :: (s.flatMap wrV ++ 34 :: 62 :: Y)))) = some ([], 60 :: (nm ++ 32 :: (nm ++ 32 :: 61 :: 32 :: 34 :: (s.flatMap wrV ++ 34 :: 62 :: Y)))) := by
    unfold outL
    rw [outGo, hbeg.trim, hbeg.no]
  obtain ⟨F, hF⟩ : ∃ F, 2 * (60 :: (nm ++ 32 :: (nm ++ 32 :: 61 :: 32 :: 34 :: (s.flatMap wrV ++ 34 :: 62 :: Y)))).length + 2 = F + 2 := ⟨_, rfl⟩
  obtain ⟨g, hg⟩ : ∃ g, (32 :: (nm ++ 32 :: 61 :: 32 :: 34 :: (s.flatMap wrV ++ 34 :: 62 :: Y))).length + 1 = g + 2 := ⟨(nm ++ 32 :: 61 :: 32 :: 34 :: (s.flatMap wrV ++ 34 :: 62 :: Y)).length, by rw [List.length_cons]⟩
  have hval : valueL (34 :: (s.flatMap wrV ++ 34 :: 62 :: Y)) = some (s, 62 :: Y) := by
    unfold valueL
    rw [strip1]
    simp only
    rw [wr_value (62 :: Y) s [] _ (by omega), List.nil_append]
  have hat : attrsGo (g + 2) (32 :: (nm ++ 32 :: 61 :: 32 :: 34 :: (s.flatMap wrV ++ 34 :: 62 :: Y))) [] = some ([(nm, s)], 62 :: Y) := by
    have ht : trimX (32 :: (nm ++ 32 :: 61 :: 32 :: 34 :: (s.flatMap wrV ++ 34 :: 62 :: Y))) = nm ++ 32 :: 61 :: 32 :: 34 :: (s.flatMap wrV ++ 34 :: 62 :: Y) := by
      rw [trim_cons, if_pos (by decide), htn]
    rw [attrsGo, ht, if_pos ⟨by rw [List.length_cons]; omega, by rw [hp1]; decide, by rw [hp2]; decide⟩, name_fwd hn]
    simp only
    rw [if_neg (by simp), trim_cons, if_pos (by decide), trim_own _ (by decide), strip1]
    simp only
    rw [trim_cons, if_pos (by decide), trim_own _ (by decide), hval]
    simp only
    rw [attrs_end]
    rfl
  have p2 : elemGo (F + 2) 0 (60 :: (nm ++ 32 :: (nm ++ 32 :: 61 :: 32 :: 34 :: (s.flatMap wrV ++ 34 :: 62 :: Y)))) = .ok (.mk 2 nm [] [(nm, s)] (textK s)) [] := by
    rw [elemGo, strip1]
    simp only
    rw [name_fwd hn]
    simp only
    rw [if_neg (by decide), hg, hat]
    simp only
    rw [strip_no [62] _ (show (47 : UInt8) ≠ 62 by decide)]
    simp only
    rw [strip1]
    simp only
    rw [hYt]
    simp only
    rw [kidsGo, if_pos (show Lib.hasPrefix (60 :: 47 :: Z) [60, 47] = true from has_app [60, 47] Z)]
    simp only
    rw [← hZ, show 60 :: 47 :: (nm ++ [32, 62]) = (60 :: 47 :: nm) ++ [32, 62] from rfl, strip_app]
    rfl
  unfold docF
  rw [p1]
  simp only
  rw [hF, p2]
  simp only
  rw [show outL [] = some ([], []) from by unfold outL; rw [outGo]; rfl]
  simp
end Go.Proofs.YtpdaldpaceolnaaGreatDoor
