/- What was read is read again, whatever stands behind it. No condition beyond what the theorems state. -/
import Derived.Test.YtpdaldpaceolnaaGreatDoorDeepPlain
import Derived.Test.YtpdaldpaceolnaaGreatDoorTrees
namespace Go.Proofs.YtpdaldpaceolnaaGreatDoor
open Go.RowKit Go.Lib
set_option maxRecDepth 100000
set_option maxHeartbeats 4000000
theorem strip_app (p z : List UInt8) : stripX p (p ++ z) = some z := by
  unfold stripX Lib.hasPrefix
  rw [if_pos (List.isPrefixOf_iff_prefix.2 (List.prefix_append p z)), List.drop_left]
theorem strip_no {c b : UInt8} (p l : List UInt8) (h : c ≠ b) : stripX (c :: p) (b :: l) = none := by
  unfold stripX Lib.hasPrefix
  have e : (c == b) = false := by simpa using h
  rw [List.isPrefixOf, e, Bool.false_and, if_neg (by decide)]
theorem has_no {c b : UInt8} (p l : List UInt8) (h : c ≠ b) : Lib.hasPrefix (b :: l) (c :: p) = false := by
  unfold Lib.hasPrefix
  have e : (c == b) = false := by simpa using h
  rw [List.isPrefixOf, e, Bool.false_and]
theorem has_app (p z : List UInt8) : Lib.hasPrefix (p ++ z) p = true := by
  unfold Lib.hasPrefix
  exact List.isPrefixOf_iff_prefix.2 (List.prefix_append p z)
theorem has_split {p l : List UInt8} (h : Lib.hasPrefix l p = true) : ∃ r, l = p ++ r := by
  unfold Lib.hasPrefix at h
  obtain ⟨t, rfl⟩ := List.isPrefixOf_iff_prefix.1 h
  exact ⟨t, rfl⟩
theorem name_head {b : UInt8} {n : List UInt8} (h : nameX (b :: n) = true) (hb : b.toNat < 128) : letterP (b.toNat : Int) := by
  unfold nameX at h
  rw [Bool.and_eq_true] at h
  have hr := runes_step (b :: n) (by simp)
  rw [decodeL_ascii b n hb] at hr
  have h2 := h.2
  rw [hr] at h2
  unfold nameB at h2
  rw [Bool.and_eq_true, List.all_eq_true] at h2
  have h3 := h2.2 0 (by simp)
  simp only [decide_eq_true_eq, List.getD_cons_zero] at h3
  rcases h3 with h3 | ⟨h3, _⟩
  · exact h3
  · omega
/-- No name begins with one of these. -/
theorem name_not {b : UInt8} {n : List UInt8} (h : nameX (b :: n) = true) (c : UInt8) (hc : c.toNat < 128) (hl : ¬ letterP (c.toNat : Int)) : c ≠ b := by
  rintro rfl
  exact hl (name_head h hc)
theorem trim_split : ∀ l : List UInt8, ∃ u, l = u ++ trimX l ∧ (∀ x ∈ u, spX.contains x = true)
  | [] => ⟨[], rfl, fun x hx => by cases hx⟩
  | c :: l => by
    rw [trim_cons]
    by_cases hc : spX.contains c = true
    · obtain ⟨u, e, hu⟩ := trim_split l
      rw [if_pos hc]
      refine ⟨c :: u, by rw [List.cons_append, ← e], fun x hx => ?_⟩
      rcases List.mem_cons.1 hx with rfl | hx
      · exact hc
      · exact hu x hx
    · rw [if_neg hc]
      exact ⟨[], rfl, fun x hx => by cases hx⟩
theorem trim_app {u : List UInt8} (hu : ∀ x ∈ u, spX.contains x = true) (z : List UInt8) : trimX (u ++ z) = trimX z := by
  unfold trimX Lib.trimLeftS
  exact List.dropWhile_append_of_pos hu
theorem trim_own {b : UInt8} (z : List UInt8) (hb : spX.contains b = false) : trimX (b :: z) = b :: z := by
  rw [trim_cons, if_neg (by rw [hb]; decide)]
theorem trim_head : ∀ (l : List UInt8) {b : UInt8} {r : List UInt8}, trimX l = b :: r → spX.contains b = false
  | [], _, _, h => by cases h
  | c :: l, b, r, h => by
    rw [trim_cons] at h
    split at h
    · exact trim_head l h
    · rename_i hc
      cases h
      simpa using hc
theorem pre_app : ∀ (p x y : List UInt8), p.length ≤ x.length → p.isPrefixOf (x ++ y) = p.isPrefixOf x
  | [], _, _, _ => by simp
  | c :: p, [], y, h => by simp at h
  | c :: p, d :: x, y, h => by
    rw [List.cons_append, List.isPrefixOf, List.isPrefixOf, pre_app p x y (by simpa using h)]
theorem up_local {p l v r : List UInt8} (_hp : p ≠ []) (h : upL p l = some (v, r)) (z : List UInt8) : upL p (v ++ (p ++ z)) = some (v, z) := by
  have hsp := up_split h
  have hi : Lib.index (v ++ (p ++ z)) p = (v.length : Int) := by
    unfold upL at h
    split at h
    · rename_i hc
      have hx := Option.some.inj h
      rcases Lib.index_spec l p with ⟨h1, _⟩ | ⟨i, h1, h2, h3, h4⟩
      · unfold Lib.cut at hc
        rw [h1] at hc
        simp at hc
      · unfold Lib.cut at hx
        rw [h1, if_pos (by omega)] at hx
        simp only [Int.toNat_natCast, Prod.mk.injEq] at hx
        have hvl : v.length = i := by rw [← hx.1, List.length_take]; omega
        rw [hvl]
        refine Lib.index_first (by rw [List.length_append]; omega) ?_ ?_
        · unfold Lib.occAt
          rw [← hvl, List.drop_left]
          exact List.isPrefixOf_iff_prefix.2 (List.prefix_append p z)
        · intro j hj
          have h5 := h4 j hj
          unfold Lib.occAt at h5 ⊢
          have key : ∀ y : List UInt8, p.isPrefixOf ((v ++ (p ++ y)).drop j) = p.isPrefixOf ((v ++ p).drop j) := fun y => by
            rw [← List.append_assoc, List.drop_append_of_le_length (by rw [List.length_append]; omega)]
            exact pre_app _ _ _ (by rw [List.length_drop, List.length_append]; omega)
          rw [hsp, key] at h5
          rw [key]
          exact h5
    · cases h
  have hc : Lib.cut (v ++ (p ++ z)) p = (v, z, true) := by
    unfold Lib.cut
    rw [hi, if_pos (by omega), Int.toNat_natCast, List.take_left, ← List.drop_drop, List.drop_left, List.drop_left]
  unfold upL
  rw [hc]
  rfl
theorem comment_local {l v r : List UInt8} (h : commentL l = some (v, r)) : l = v ++ 45 :: 45 :: 62 :: r ∧ ∀ z, commentL (v ++ 45 :: 45 :: 62 :: z) = some (v, z) := by
  unfold commentL at h
  cases h1 : upL [45, 45] l with
  | none => rw [h1] at h; cases h
  | some x =>
    obtain ⟨v', r1⟩ := x
    rw [h1] at h
    simp only at h
    cases h2 : stripX [62] r1 with
    | none => rw [h2] at h; cases h
    | some r2 =>
      rw [h2] at h
      simp only [Option.some.injEq, Prod.mk.injEq] at h
      obtain ⟨rfl, rfl⟩ := h
      have e1 := up_split h1
      have e2 := strip_split h2
      subst e2
      refine ⟨e1, fun z => ?_⟩
      have h3 := up_local (by decide) h1 (62 :: z)
      unfold commentL
      rw [show v' ++ 45 :: 45 :: 62 :: z = v' ++ ([45, 45] ++ 62 :: z) from rfl, h3]
      simp only [strip1]
theorem any_at (p : List UInt8) {c : UInt8} (hc : p.contains c = true) (y : List UInt8) : ∀ u : List UInt8, (∀ b ∈ u, p.contains b = false) → Lib.indexAny (u ++ c :: y) p = (u.length : Int)
  | [], _ => by
    show (if p.contains c = true then (0 : Int) else _) = _
    rw [if_pos hc]; rfl
  | b :: u, h => by
    have ih := any_at p hc y u fun x hx => h x (.tail _ hx)
    show (if p.contains b = true then (0 : Int) else if (Lib.indexAny (u ++ c :: y) p == -1) = true then -1 else Lib.indexAny (u ++ c :: y) p + 1) = _
    rw [if_neg (by rw [h b (.head _)]; decide), ih, if_neg (by simp only [beq_iff_eq]; omega)]
    simp only [List.length_cons]
    omega
theorem any_parts (p : List UInt8) : ∀ (l : List UInt8), Lib.indexAny l p = -1 ∨ ∃ u c v, l = u ++ c :: v ∧ p.contains c = true ∧ (∀ b ∈ u, p.contains b = false)
  | [] => .inl rfl
  | b :: l => by
    by_cases hb : p.contains b = true
    · exact .inr ⟨[], b, l, rfl, hb, fun x hx => by simp at hx⟩
    · rcases any_parts p l with h | ⟨u, c, v, e, hc, h⟩
      · left
        show (if p.contains b = true then (0 : Int) else if (Lib.indexAny l p == -1) = true then -1 else _) = _
        rw [if_neg hb, h]
        rfl
      · refine .inr ⟨b :: u, c, v, by rw [e]; rfl, hc, fun x hx => ?_⟩
        rcases List.mem_cons.1 hx with rfl | hx
        · simpa using hb
        · exact h x hx
theorem cut_here (u y : List UInt8) : cutX (u ++ y) (u.length : Int) = (u, y) := by
  unfold cutX
  rw [if_neg (by omega), Int.toNat_natCast, List.take_left, List.drop_left]
theorem idx_local (n : List UInt8) (c : UInt8) (r z : List UInt8) (hc : c.toNat < 128) : ∀ (f g pos : Nat), pos ≤ n.length → validX (n.drop pos) = true → n.length - pos < g → Lib.idxFuncFrom noName true (ba' (n ++ c :: r)) f pos = (n.length : Int) → Lib.idxFuncFrom noName true (ba' (n ++ c :: z)) g pos = (n.length : Int)
  | 0, _, _, _, _, _, h => by
    rw [Lib.idxFuncFrom] at h; omega
  | f + 1, 0, _, _, _, h, _ => by omega
  | f + 1, g + 1, pos, hp, hv, hg, h => by
    have s1 : pos < (ba' (n ++ c :: r)).size := by rw [size_ba, List.length_append, List.length_cons]; omega
    have s2 : pos < (ba' (n ++ c :: z)).size := by rw [size_ba, List.length_append, List.length_cons]; omega
    rw [Lib.idxFuncFrom, if_pos s1] at h
    rw [Lib.idxFuncFrom, if_pos s2]
    by_cases hpe : pos = n.length
    · subst hpe
      have d : ∀ y, Utf8.decode (ba' (n ++ c :: y)) n.length = (c.toNat, 1) := fun y => by
        rw [← decodeL_drop (ba' (n ++ c :: y)) n.length]
        show decodeL ((n ++ c :: y).drop n.length) = _
        rw [List.drop_left]
        exact decodeL_ascii c y hc
      rw [d] at h ⊢
      simp only at h ⊢
      by_cases hn : noName c.toNat = true
      · rw [if_pos hn]
      · rw [if_neg hn] at h
        rcases Lib.idxFuncFrom_range noName true (ba' (n ++ c :: r)) f (n.length + 1) with h' | ⟨h', _⟩ <;> omega
    · have hne : n.drop pos ≠ [] := by rw [ne_eq, List.drop_eq_nil_iff]; omega
      obtain ⟨x, hx, _, e, _, hv2⟩ := vx_cut _ hne hv
      have hxp := enc_pos x hx
      have hle : pos + (enc x).length ≤ n.length := by
        have := congrArg List.length e
        rw [List.length_append, List.length_drop, List.length_drop] at this
        omega
      have d : ∀ y, Utf8.decode (ba' (n ++ c :: y)) pos = (x, (enc x).length) := fun y => by
        rw [← decodeL_drop (ba' (n ++ c :: y)) pos]
        show decodeL ((n ++ c :: y).drop pos) = _
        rw [List.drop_append_of_le_length hp, e, List.append_assoc]
        exact decode_enc x hx _
      rw [d] at h ⊢
      simp only at h ⊢
      by_cases hn : noName x = true
      · rw [if_pos hn] at h
        omega
      · rw [if_neg hn] at h ⊢
        exact idx_local n c r z hc f g (pos + (enc x).length) hle (by rw [← List.drop_drop]; exact hv2) (by omega) h
theorem name_split {l n r : List UInt8} (h : nameL l = some (n, r)) : l = n ++ r ∧ nameX n = true := by
  unfold nameL at h
  split at h
  · rename_i hn
    have h' := Option.some.inj h
    rw [h'] at hn
    refine ⟨?_, hn⟩
    unfold cutX at h'
    split at h'
    · have e1 := congrArg Prod.fst h'
      have e2 := congrArg Prod.snd h'
      simp only at e1 e2
      rw [← e1, ← e2]; simp
    · have e1 := congrArg Prod.fst h'
      have e2 := congrArg Prod.snd h'
      simp only at e1 e2
      rw [← e1, ← e2, List.take_append_drop]
  · cases h
theorem name_local {l n r : List UInt8} {c : UInt8} (h : nameL l = some (n, c :: r)) (hc : c.toNat < 128) (z : List UInt8) : nameL (n ++ c :: z) = some (n, c :: z) := by
  obtain ⟨hs, hnx⟩ := name_split h
  have hk : Lib.idxFunc noName true (ba' (n ++ c :: r)) = (n.length : Int) := by
    unfold nameL at h
    rw [hs] at h
    obtain ⟨k, hk⟩ : ∃ k, Lib.idxFunc noName true (ba' (n ++ c :: r)) = k := ⟨_, rfl⟩
    have hkr := Lib.idxFunc_range noName true (ba' (n ++ c :: r))
    rw [hk] at h hkr ⊢
    rw [size_ba] at hkr
    split at h
    · have h' := Option.some.inj h
      unfold cutX at h'
      split at h'
      · cases congrArg Prod.snd h'
      · have h2 := congrArg (fun x => x.1.length) h'
        simp only [List.length_take] at h2
        omega
    · cases h
  have hk2 : Lib.idxFunc noName true (ba' (n ++ c :: z)) = (n.length : Int) := by
    unfold Lib.idxFunc at hk ⊢
    exact idx_local n c r z hc _ _ 0 (Nat.zero_le _) (name_isValid hnx) (by rw [size_ba, List.length_append, List.length_cons]; omega) hk
  unfold nameL
  rw [hk2, cut_here]
  simp only
  rw [if_pos hnx]
end Go.Proofs.YtpdaldpaceolnaaGreatDoor
namespace Go.Proofs.YtpdaldpaceolnaaGreatDoor
open Go.RowKit Go.Lib
set_option maxRecDepth 100000
set_option maxHeartbeats 4000000
theorem valueGo_nil (q : UInt8) (f : Nat) (acc : List UInt8) : valueGo q f [] acc = none := by
  cases f with
  | zero => rw [valueGo]
  | succ f =>
    have h1 : stripX [q] [] = none := by unfold stripX; simp [Lib.hasPrefix]
    have h2 : stripX [38] [] = none := by unfold stripX; simp [Lib.hasPrefix]
    rw [valueGo, h1, h2]
    simp
theorem cutX_minus (l : List UInt8) : cutX l (-1) = (l, []) := by unfold cutX; rw [if_pos (by decide)]
theorem valueGo_local (q : UInt8) (hq1 : q ≠ 38) (hq2 : q ≠ 60) : ∀ (f : Nat) (l acc v r : List UInt8), valueGo q f l acc = some (v, r) → ∃ c, l = c ++ r ∧ c ≠ [] ∧ ∀ (g : Nat) (z : List UInt8), c.length ≤ g → valueGo q g (c ++ z) acc = some (v, z)
  | 0, _, _, _, _, h => by rw [valueGo] at h; cases h
  | f + 1, l, acc, v, r, h => by
    rw [valueGo] at h
    cases h1 : stripX [q] l with
    | some r1 =>
      rw [h1] at h
      simp only [Option.some.injEq, Prod.mk.injEq] at h
      obtain ⟨rfl, rfl⟩ := h
      refine ⟨[q], strip_split h1, by simp, fun g z hg => ?_⟩
      obtain ⟨g, rfl⟩ : ∃ k, g = k + 1 := ⟨g - 1, by simp at hg; omega⟩
      rw [valueGo, strip_app]
    | none =>
      rw [h1] at h
      simp only at h
      cases h2 : stripX [38] l with
      | some r1 =>
        rw [h2] at h
        simp only at h
        cases h3 : cutF r1 with
        | none => rw [h3] at h; cases h
        | some x =>
          obtain ⟨m, rest⟩ := x
          rw [h3] at h
          simp only at h
          obtain ⟨body, eb, hb⟩ := cutF_split h3
          obtain ⟨c, ec, _, hc⟩ := valueGo_local q hq1 hq2 f rest (acc ++ m) v r h
          refine ⟨38 :: (body ++ 59 :: c), by rw [strip_split h2, eb, ec]; simp, by simp, fun g z hg => ?_⟩
          obtain ⟨g, rfl⟩ : ∃ k, g = k + 1 := ⟨g - 1, by simp at hg; omega⟩
          have e : 38 :: (body ++ 59 :: c) ++ z = 38 :: (body ++ 59 :: (c ++ z)) := by simp
          rw [e, valueGo, strip_no [] _ hq1]
          simp only [strip1, hb]
          exact hc g z (by simp at hg; omega)
      | none =>
        rw [h2] at h
        simp only at h
        split at h
        · cases h
        · rename_i hne
          rcases any_parts [60, 38, q] l with hk | ⟨u, c1, y, e, hc1, hu⟩
          · rw [hk, cutX_minus] at h
            simp only at h
            rw [valueGo_nil] at h
            cases h
          · have hk := any_at [60, 38, q] hc1 y u hu
            rw [e, hk, cut_here] at h
            simp only at h
            obtain ⟨c, ec, hcne, hc⟩ := valueGo_local q hq1 hq2 f (c1 :: y) (acc ++ blanksL u) v r h
            cases u with
            | nil =>
              exfalso
              simp only [List.nil_append] at e
              subst e
              have hm : c1 = 60 ∨ c1 = 38 ∨ c1 = q := by simpa using hc1
              rcases hm with rfl | rfl | rfl
              · exact hne (.inr (has_app [60] y))
              · rw [strip1] at h2; cases h2
              · rw [strip1] at h1; cases h1
            | cons b u =>
              have hb := hu b (.head _)
              have hb3 : b ≠ 60 ∧ b ≠ 38 ∧ b ≠ q := by simpa using hb
              refine ⟨b :: u ++ c, by rw [e, ec, List.append_assoc], by simp, fun g z hg => ?_⟩
              obtain ⟨g, rfl⟩ : ∃ k, g = k + 1 := ⟨g - 1, by simp at hg; omega⟩
              obtain ⟨c0, cs, rfl⟩ := List.exists_cons_of_ne_nil hcne
              have e0 : c0 = c1 := by
                rw [List.cons_append] at ec
                exact (List.cons.inj ec).1.symm
              subst e0
              have e2 : b :: u ++ c0 :: cs ++ z = (b :: u) ++ c0 :: (cs ++ z) := by simp
              have e3 : (b :: u) ++ c0 :: (cs ++ z) = b :: (u ++ c0 :: (cs ++ z)) := rfl
              rw [e2, valueGo, e3, strip_no [] _ (Ne.symm hb3.2.2), strip_no [] _ (Ne.symm hb3.2.1)]
              simp only
              rw [if_neg (by rw [has_no [] _ (Ne.symm hb3.1)]; simp), ← e3, any_at [60, 38, q] hc1 (cs ++ z) (b :: u) hu, cut_here]
              exact hc g z (by simp at hg ⊢; omega)
theorem value_local {l v r : List UInt8} (h : valueL l = some (v, r)) : ∃ (b : UInt8) (c : List UInt8), l = b :: c ++ r ∧ (b = 34 ∨ b = 39) ∧ ∀ z, valueL (b :: c ++ z) = some (v, z) := by
  unfold valueL at h
  cases h1 : stripX [34] l with
  | some r1 =>
    rw [h1] at h
    simp only at h
    obtain ⟨c, ec, _, hc⟩ := valueGo_local 34 (by decide) (by decide) _ _ _ _ _ h
    refine ⟨34, c, by rw [strip_split h1, ec]; rfl, .inl rfl, fun z => ?_⟩
    unfold valueL
    rw [List.cons_append, strip1]
    simp only
    exact hc _ z (by simp; omega)
  | none =>
    rw [h1] at h
    simp only at h
    cases h2 : stripX [39] l with
    | none => rw [h2] at h; cases h
    | some r1 =>
      rw [h2] at h
      simp only at h
      obtain ⟨c, ec, _, hc⟩ := valueGo_local 39 (by decide) (by decide) _ _ _ _ _ h
      refine ⟨39, c, by rw [strip_split h2, ec]; rfl, .inr rfl, fun z => ?_⟩
      unfold valueL
      rw [List.cons_append, strip_no [] _ (by decide), strip1]
      simp only
      exact hc _ z (by simp; omega)
/-- What ends characters: a sign < that begins no section of data. -/
def Stop (z : List UInt8) : Prop := (∃ y, z = 60 :: y) ∧ stripX cdataB z = none
theorem textGo_stop {z : List UInt8} (hz : Stop z) (f : Nat) (acc : List UInt8) : textGo (f + 1) z acc = some (acc, z) := by
  obtain ⟨⟨y, rfl⟩, h⟩ := hz
  rw [textGo, h, strip_no [] _ (by decide)]
  simp only
  rw [if_pos (.inr (has_app [60] y))]
theorem textGo_nil : ∀ (f : Nat) (acc a r : List UInt8), textGo f [] acc = some (a, r) → r = []
  | 0, _, _, _, h => by rw [textGo] at h; cases h
  | f + 1, acc, a, r, h => by
    have h1 : stripX cdataB [] = none := by unfold stripX cdataB; simp [Lib.hasPrefix]
    have h2 : stripX [38] [] = none := by unfold stripX; simp [Lib.hasPrefix]
    rw [textGo, h1, h2] at h
    simp only [true_or, if_true] at h
    cases h
    rfl
theorem cdata_no {b : UInt8} (l : List UInt8) (h : b ≠ 60) : stripX cdataB (b :: l) = none := strip_no _ _ (Ne.symm h)
theorem textGo_local : ∀ (f : Nat) (l acc a r : List UInt8), textGo f l acc = some (a, r) → r ≠ [] → Stop r ∧ ∃ c, l = c ++ r ∧ ∀ (g : Nat) (z : List UInt8), Stop z → c.length < g → textGo g (c ++ z) acc = some (a, z)
  | 0, _, _, _, _, h, _ => by rw [textGo] at h; cases h
  | f + 1, l, acc, a, r, h, hr => by
    rw [textGo] at h
    cases h1 : stripX cdataB l with
    | some r1 =>
      rw [h1] at h
      simp only at h
      cases h3 : upL [93, 93, 62] r1 with
      | none => rw [h3] at h; cases h
      | some x =>
        obtain ⟨v, rest⟩ := x
        rw [h3] at h
        simp only at h
        obtain ⟨hst, c, ec, hc⟩ := textGo_local f rest (acc ++ v) a r h hr
        refine ⟨hst, cdataB ++ (v ++ ([93, 93, 62] ++ c)), by rw [strip_split h1, up_split h3, ec]; simp, fun g z hz hg => ?_⟩
        obtain ⟨g, rfl⟩ : ∃ k, g = k + 1 := ⟨g - 1, by omega⟩
        have e : cdataB ++ (v ++ ([93, 93, 62] ++ c)) ++ z = cdataB ++ (v ++ ([93, 93, 62] ++ (c ++ z))) := by simp
        rw [e, textGo, strip_app]
        simp only
        rw [up_local (by decide) h3 (c ++ z)]
        exact hc g z hz (by simp at hg; omega)
    | none =>
      rw [h1] at h
      simp only at h
      cases h2 : stripX [38] l with
      | some r1 =>
        rw [h2] at h
        simp only at h
        cases h3 : cutF r1 with
        | none => rw [h3] at h; cases h
        | some x =>
          obtain ⟨m, rest⟩ := x
          rw [h3] at h
          simp only at h
          obtain ⟨body, eb, hb⟩ := cutF_split h3
          obtain ⟨hst, c, ec, hc⟩ := textGo_local f rest (acc ++ m) a r h hr
          refine ⟨hst, 38 :: (body ++ 59 :: c), by rw [strip_split h2, eb, ec]; simp, fun g z hz hg => ?_⟩
          obtain ⟨g, rfl⟩ : ∃ k, g = k + 1 := ⟨g - 1, by omega⟩
          have e : 38 :: (body ++ 59 :: c) ++ z = 38 :: (body ++ 59 :: (c ++ z)) := by simp
          rw [e, textGo, cdata_no _ (by decide)]
          simp only [strip1, hb]
          exact hc g z hz (by simp at hg; omega)
      | none =>
        rw [h2] at h
        simp only at h
        split at h
        · rename_i hl
          cases h
          have hs : Stop l := by
            rcases hl with rfl | hl
            · exact absurd rfl hr
            · obtain ⟨y, rfl⟩ := has_split hl
              exact ⟨⟨y, rfl⟩, h1⟩
          refine ⟨hs, [], rfl, fun g z hz hg => ?_⟩
          obtain ⟨g, rfl⟩ : ∃ k, g = k + 1 := ⟨g - 1, by omega⟩
          exact textGo_stop hz g acc
        · rename_i hne
          split at h
          · cases h
          · rename_i hcon
            rcases any_parts [60, 38] l with hk | ⟨u, c1, y, e, hc1, hu⟩
            · rw [hk, cutX_minus] at h
              exact absurd (textGo_nil _ _ _ _ h) hr
            · have hk := any_at [60, 38] hc1 y u hu
              rw [e, hk, cut_here] at h hcon
              simp only at h hcon
              obtain ⟨hst, c, ec, hc⟩ := textGo_local f (c1 :: y) (acc ++ u) a r h hr
              cases u with
              | nil =>
                exfalso
                simp only [List.nil_append] at e
                subst e
                have hm : c1 = 60 ∨ c1 = 38 := by simpa using hc1
                rcases hm with rfl | rfl
                · exact hne (.inr (has_app [60] y))
                · rw [strip1] at h2; cases h2
              | cons b u =>
                have hb := hu b (.head _)
                have hb3 : b ≠ 60 ∧ b ≠ 38 := by simpa using hb
                refine ⟨hst, b :: u ++ c, by rw [e, ec, List.append_assoc], fun g z hz hg => ?_⟩
                obtain ⟨g, rfl⟩ : ∃ k, g = k + 1 := ⟨g - 1, by omega⟩
                obtain ⟨c0, y', e4, hc0⟩ : ∃ c0 y', c ++ z = c0 :: y' ∧ ([60, 38] : List UInt8).contains c0 = true := by
                  cases c with
                  | nil =>
                    obtain ⟨⟨y', rfl⟩, _⟩ := hz
                    exact ⟨60, y', rfl, by decide⟩
                  | cons c0 cs =>
                    rw [List.cons_append] at ec
                    have := (List.cons.inj ec).1
                    exact ⟨c0, cs ++ z, rfl, by rw [← this]; exact hc1⟩
                have e2 : b :: u ++ c ++ z = (b :: u) ++ c0 :: y' := by rw [List.append_assoc, e4]
                have e3 : (b :: u) ++ c0 :: y' = b :: (u ++ c0 :: y') := rfl
                rw [e2, textGo, e3, cdata_no _ hb3.1, strip_no [] _ (Ne.symm hb3.2)]
                simp only
                rw [if_neg (by rw [has_no [] _ (Ne.symm hb3.1)]; simp), ← e3, any_at [60, 38] hc0 y' (b :: u) hu, cut_here]
                simp only
                rw [if_neg hcon, ← e4]
                exact hc g z hz (by simp at hg; omega)
theorem text_local {l : List UInt8} {ks : List PT} {r : List UInt8} (h : textL l = some (ks, r)) (hr : r ≠ []) : Stop r ∧ ∃ c, l = c ++ r ∧ ∀ z, Stop z → textL (c ++ z) = some (ks, z) := by
  unfold textL at h
  cases hg : textGo (l.length + 1) l [] with
  | none => rw [hg] at h; cases h
  | some x =>
    obtain ⟨a, r'⟩ := x
    rw [hg] at h
    cases h
    obtain ⟨hs, c, ec, hc⟩ := textGo_local _ _ _ _ _ hg hr
    refine ⟨hs, c, ec, fun z hz => ?_⟩
    unfold textL
    rw [hc _ z hz (by rw [List.length_append]; omega)]
    rfl
/-- What ends attributes. -/
def AEnd (z : List UInt8) : Prop := (∃ y, z = 62 :: y) ∨ ∃ y, z = 47 :: 62 :: y
theorem AEnd.trim {z : List UInt8} (h : AEnd z) : trimX z = z := by
  rcases h with ⟨y, rfl⟩ | ⟨y, rfl⟩
  · exact trim_own _ (by decide)
  · exact trim_own _ (by decide)
theorem AEnd.has {z : List UInt8} (h : AEnd z) : Lib.hasPrefix z [47, 62] = true ∨ Lib.hasPrefix z [62] = true := by
  rcases h with ⟨y, rfl⟩ | ⟨y, rfl⟩
  · exact .inr (has_app [62] y)
  · exact .inl (has_app [47, 62] y)
theorem sp_low {x : UInt8} (h : spX.contains x = true) : x.toNat < 128 := by
  have h2 : ∀ x ∈ spX, x.toNat < 128 := by decide
  rw [List.contains_eq_mem, decide_eq_true_eq] at h
  exact h2 x h
theorem attrsGo_local : ∀ (f : Nat) (l : List UInt8) (acc ps : List (List UInt8 × List UInt8)) (r : List UInt8), attrsGo f l acc = some (ps, r) → AEnd r → ∃ c, l = c ++ r ∧ (c = [] ∨ ∃ b c', c = b :: c' ∧ spX.contains b = true) ∧ ∀ (g : Nat) (z : List UInt8), AEnd z → c.length < g → attrsGo g (c ++ z) acc = some (ps, z)
  | 0, _, _, _, _, h, _ => by rw [attrsGo] at h; cases h
  | f + 1, l, acc, ps, r, h, hr => by
    rw [attrsGo] at h
    obtain ⟨u, eu, hu⟩ := trim_split l
    have hu0 : u = [] ∨ ∃ b c', u = b :: c' ∧ spX.contains b = true := by
      cases u with
      | nil => exact .inl rfl
      | cons b u => exact .inr ⟨b, u, rfl, hu b (.head _)⟩
    split at h
    · rename_i hcond
      cases h1 : nameL (trimX l) with
      | none => rw [h1] at h; cases h
      | some x =>
        obtain ⟨n, r1⟩ := x
        rw [h1] at h
        simp only at h
        obtain ⟨en, hnx⟩ := name_split h1
        split at h
        · cases h
        · rename_i hnin
          cases h2 : stripX [61] (trimX r1) with
          | none => rw [h2] at h; cases h
          | some r2 =>
            rw [h2] at h
            simp only at h
            cases h3 : valueL (trimX r2) with
            | none => rw [h3] at h; cases h
            | some y =>
              obtain ⟨v, r3⟩ := y
              rw [h3] at h
              simp only at h
              obtain ⟨c, ec, _, hc⟩ := attrsGo_local f r3 _ ps r h hr
              obtain ⟨u1, eu1, hu1⟩ := trim_split r1
              obtain ⟨u2, eu2, hu2⟩ := trim_split r2
              obtain ⟨b3, c3, ev, hb3, hv⟩ := value_local h3
              have e2 := strip_split h2
              have er1 : r1 = u1 ++ 61 :: r2 := by rw [e2] at eu1; exact eu1
              obtain ⟨n0, n', rfl⟩ : ∃ n0 n', n = n0 :: n' := List.exists_cons_of_ne_nil (by intro h0; subst h0; rw [nameX_nil] at hnx; cases hnx)
              have hn0 : spX.contains n0 = false := trim_head l (by rw [en]; rfl)
              -- the byte behind the name
              obtain ⟨k0, r1', ek0, hk0, hk1⟩ : ∃ k0 r1', r1 = k0 :: r1' ∧ k0.toNat < 128 ∧ ∀ z, ∃ z', u1 ++ 61 :: z = k0 :: z' := by
                cases u1 with
                | nil => exact ⟨61, r2, er1, by decide, fun z => ⟨z, rfl⟩⟩
                | cons b u1 => exact ⟨b, u1 ++ 61 :: r2, er1, sp_low (hu1 b (.head _)), fun z => ⟨u1 ++ 61 :: z, rfl⟩⟩
              rw [ek0] at h1
              refine ⟨u ++ (n0 :: n' ++ (u1 ++ 61 :: (u2 ++ (b3 :: c3 ++ c)))), ?_, ?_, fun g z hz hg => ?_⟩
              · rw [eu, en, er1, eu2, ev, ec]
                simp
              · rcases hu0 with rfl | ⟨b, c', rfl, hb⟩
                · exfalso
                  have := hcond.1
                  have e9 := congrArg List.length eu
                  simp at e9
                  omega
                · exact .inr ⟨b, _, rfl, hb⟩
              · obtain ⟨g, rfl⟩ : ∃ k, g = k + 1 := ⟨g - 1, by omega⟩
                have e : u ++ (n0 :: n' ++ (u1 ++ 61 :: (u2 ++ (b3 :: c3 ++ c)))) ++ z = u ++ (n0 :: (n' ++ (u1 ++ 61 :: (u2 ++ (b3 :: c3 ++ (c ++ z)))))) := by simp
                have ht : trimX (u ++ (n0 :: (n' ++ (u1 ++ 61 :: (u2 ++ (b3 :: c3 ++ (c ++ z))))))) = n0 :: (n' ++ (u1 ++ 61 :: (u2 ++ (b3 :: c3 ++ (c ++ z))))) := by
                  rw [trim_app hu, trim_own _ hn0]
                obtain ⟨z', hz'⟩ := hk1 (u2 ++ (b3 :: c3 ++ (c ++ z)))
                have hnl : nameL (n0 :: (n' ++ (u1 ++ 61 :: (u2 ++ (b3 :: c3 ++ (c ++ z)))))) = some (n0 :: n', u1 ++ 61 :: (u2 ++ (b3 :: c3 ++ (c ++ z)))) := by
                  rw [hz', ← List.cons_append]
                  exact name_local h1 hk0 z'
                have ht1 : trimX (u1 ++ 61 :: (u2 ++ (b3 :: c3 ++ (c ++ z)))) = 61 :: (u2 ++ (b3 :: c3 ++ (c ++ z))) := by
                  rw [trim_app hu1, trim_own _ (by decide)]
                have ht2 : trimX (u2 ++ (b3 :: c3 ++ (c ++ z))) = b3 :: c3 ++ (c ++ z) := by
                  rw [trim_app hu2, List.cons_append, trim_own _ (by rcases hb3 with rfl | rfl <;> decide)]
                have n47 : (47 : UInt8) ≠ n0 := name_not hnx 47 (by decide) (by decide)
                have n62 : (62 : UInt8) ≠ n0 := name_not hnx 62 (by decide) (by decide)
                have hlt9 : (n0 :: (n' ++ (u1 ++ 61 :: (u2 ++ (b3 :: c3 ++ (c ++ z)))))).length < (u ++ (n0 :: (n' ++ (u1 ++ 61 :: (u2 ++ (b3 :: c3 ++ (c ++ z))))))).length := by
                  have h9 := hcond.1
                  have e9 := congrArg List.length eu
                  rw [List.length_append] at e9
                  rw [List.length_append]
                  omega
                rw [e, attrsGo, ht, if_pos ⟨hlt9, by rw [has_no _ _ n47]; decide, by rw [has_no _ _ n62]; decide⟩, hnl]
                simp only
                rw [if_neg hnin, ht1, strip1]
                simp only
                rw [ht2, hv]
                exact hc g z hz (by simp at hg; omega)
    · rename_i hcond
      cases h
      refine ⟨u, eu, hu0, fun g z hz hg => ?_⟩
      obtain ⟨g, rfl⟩ : ∃ k, g = k + 1 := ⟨g - 1, by omega⟩
      have ht : trimX (u ++ z) = z := by rw [trim_app hu, hz.trim]
      rw [attrsGo, ht, if_neg ?_]
      rintro ⟨_, h1, h2⟩
      rcases hz.has with h | h
      · exact h1 h
      · exact h2 h
end Go.Proofs.YtpdaldpaceolnaaGreatDoor
namespace Go.Proofs.YtpdaldpaceolnaaGreatDoor
open Go.RowKit Go.Lib
set_option maxRecDepth 100000
set_option maxHeartbeats 4000000
theorem strip_no2 {a b c : UInt8} (p l : List UInt8) (h : c ≠ b) : stripX (a :: c :: p) (a :: b :: l) = none := by
  unfold stripX Lib.hasPrefix
  have e : (c == b) = false := by simpa using h
  rw [List.isPrefixOf, List.isPrefixOf, e, Bool.false_and, Bool.and_false, if_neg (by decide)]
theorem has_no2 {a b c : UInt8} (p l : List UInt8) (h : c ≠ b) : Lib.hasPrefix (a :: b :: l) (a :: c :: p) = false := by
  unfold Lib.hasPrefix
  have e : (c == b) = false := by simpa using h
  rw [List.isPrefixOf, List.isPrefixOf, e, Bool.false_and, Bool.and_false]
theorem stop_other {b : UInt8} (y : List UInt8) (h : b ≠ 33) : Stop (60 :: b :: y) := ⟨⟨b :: y, rfl⟩, strip_no2 _ _ (Ne.symm h)⟩
theorem stop_remark (y : List UInt8) : Stop (60 :: 33 :: 45 :: y) := by
  refine ⟨⟨33 :: 45 :: y, rfl⟩, ?_⟩
  unfold stripX Lib.hasPrefix cdataB
  rw [if_neg (by simp [List.isPrefixOf])]
theorem first_same {ca : List UInt8} (h : ca = [] ∨ ∃ b c', ca = b :: c' ∧ spX.contains b = true) (k : UInt8) (hk : k.toNat < 128) : ∃ k0 : UInt8, k0.toNat < 128 ∧ ∀ y, ∃ y', ca ++ k :: y = k0 :: y' := by
  rcases h with rfl | ⟨b, c', rfl, hb⟩
  · exact ⟨k, hk, fun y => ⟨y, rfl⟩⟩
  · exact ⟨b, sp_low hb, fun y => ⟨c' ++ k :: y, rfl⟩⟩
def ELoc (f : Nat) : Prop := ∀ (o : Nat) (l : List UInt8) (t : PT) (r : List UInt8), elemGo f o l = .ok t r → ∃ b c, l = 60 :: b :: c ++ r ∧ b ≠ 33 ∧ b ≠ 47 ∧ t.k = 2 ∧ ∀ (g o' : Nat) (z : List UInt8), f ≤ g → o ≤ o' → (elemGo g o' (60 :: b :: c ++ z) = .ok t z ∨ (o < o' ∧ elemGo g o' (60 :: b :: c ++ z) = .nest))
def KLoc (f : Nat) : Prop := ∀ (o : Nat) (l : List UInt8) (acc ks : List PT) (r : List UInt8), kidsGo f o l acc = .ok ks r → ∃ c r', l = c ++ r ∧ r = 60 :: 47 :: r' ∧ (∀ z, Stop (c ++ 60 :: 47 :: z)) ∧ ∀ (g o' : Nat) (z : List UInt8), f ≤ g → o ≤ o' → (kidsGo g o' (c ++ 60 :: 47 :: z) acc = .ok ks (60 :: 47 :: z) ∨ (o < o' ∧ kidsGo g o' (c ++ 60 :: 47 :: z) acc = .nest))
theorem ek_local : ∀ f : Nat, ELoc f ∧ KLoc f := by
  intro f
  induction f with
  | zero => exact ⟨fun o l t r h => (by unfold elemGo at h; cases h), fun o l acc ks r h => (by unfold kidsGo at h; cases h)⟩
  | succ f ih =>
    obtain ⟨ihe, ihk⟩ := ih
    constructor
    · intro o l t r h
      unfold elemGo at h
      cases h1 : stripX [60] l with
      | none => rw [h1] at h; cases h
      | some r0 =>
        rw [h1] at h
        simp only at h
        cases h2 : nameL r0 with
        | none => rw [h2] at h; cases h
        | some x =>
          obtain ⟨n, r1⟩ := x
          rw [h2] at h
          simp only at h
          obtain ⟨en, hnx⟩ := name_split h2
          obtain ⟨n0, n', rfl⟩ : ∃ n0 n', n = n0 :: n' := List.exists_cons_of_ne_nil (by intro h0; subst h0; rw [nameX_nil] at hnx; cases hnx)
          have n47 : (47 : UInt8) ≠ n0 := name_not hnx 47 (by decide) (by decide)
          have n33 : (33 : UInt8) ≠ n0 := name_not hnx 33 (by decide) (by decide)
          by_cases ho : 62 < o
          · rw [if_pos ho] at h; cases h
          · rw [if_neg ho] at h
            cases h3 : attrsGo (r1.length + 1) r1 [] with
            | none => rw [h3] at h; cases h
            | some x =>
              obtain ⟨ps, r2⟩ := x
              rw [h3] at h
              simp only at h
              cases h4 : stripX [47, 62] r2 with
              | some r3 =>
                rw [h4] at h
                simp only at h
                cases h
                have e2 := strip_split h4
                obtain ⟨ca, ea, ha0, hca⟩ := attrsGo_local _ _ _ _ _ h3 (.inr ⟨r, e2⟩)
                obtain ⟨k0, hk0, hk1⟩ := first_same ha0 47 (by decide)
                obtain ⟨y0, hy0⟩ := hk1 (62 :: r)
                have er1 : r1 = k0 :: y0 := by rw [ea, e2]; exact hy0
                rw [er1] at h2
                refine ⟨n0, n' ++ (ca ++ [47, 62]), by rw [strip_split h1, en, ea, e2]; simp, Ne.symm n33, Ne.symm n47, rfl, fun g o' z hg hoo => ?_⟩
                obtain ⟨g, rfl⟩ : ∃ k, g = k + 1 := ⟨g - 1, by omega⟩
                have e : 60 :: n0 :: (n' ++ (ca ++ [47, 62])) ++ z = 60 :: (n0 :: n' ++ (ca ++ 47 :: 62 :: z)) := by simp
                obtain ⟨z', hz'⟩ := hk1 (62 :: z)
                have hnl : nameL (n0 :: n' ++ (ca ++ 47 :: 62 :: z)) = some (n0 :: n', ca ++ 47 :: 62 :: z) := by
                  rw [hz']
                  exact name_local h2 hk0 z'
                rw [e, elemGo, strip1]
                simp only
                rw [hnl]
                simp only
                by_cases ho' : 62 < o'
                · rw [if_pos ho']
                  exact .inr ⟨by omega, rfl⟩
                · rw [if_neg ho', hca _ (47 :: 62 :: z) (.inr ⟨z, rfl⟩) (by rw [List.length_append]; omega)]
                  simp only
                  rw [show (47 :: 62 :: z) = [47, 62] ++ z from rfl, strip_app]
                  exact .inl rfl
              | none =>
                rw [h4] at h
                simp only at h
                cases h5 : stripX [62] r2 with
                | none => rw [h5] at h; cases h
                | some r3 =>
                  rw [h5] at h
                  simp only at h
                  cases h6 : textL r3 with
                  | none => rw [h6] at h; cases h
                  | some x =>
                    obtain ⟨ks, r4⟩ := x
                    rw [h6] at h
                    simp only at h
                    cases h7 : kidsGo f (o + 1) r4 ks with
                    | bad => rw [h7] at h; cases h
                    | nest => rw [h7] at h; cases h
                    | ok ks2 r5 =>
                      rw [h7] at h
                      simp only at h
                      cases h8 : stripX (60 :: 47 :: (n0 :: n')) r5 with
                      | none => rw [h8] at h; cases h
                      | some r6 =>
                        rw [h8] at h
                        simp only at h
                        cases h9 : stripX [62] (trimX r6) with
                        | none => rw [h9] at h; cases h
                        | some r7 =>
                          rw [h9] at h
                          simp only at h
                          cases h
                          have e2 := strip_split h5
                          obtain ⟨ca, ea, ha0, hca⟩ := attrsGo_local _ _ _ _ _ h3 (.inl ⟨r3, e2⟩)
                          obtain ⟨k0, hk0, hk1⟩ := first_same ha0 62 (by decide)
                          obtain ⟨y0, hy0⟩ := hk1 r3
                          have er1 : r1 = k0 :: y0 := by rw [ea, e2]; exact hy0
                          rw [er1] at h2
                          obtain ⟨ck, r', ek, er5, hstop, hck⟩ := ihk _ _ _ _ _ h7
                          obtain ⟨_, ct, et, hct⟩ := text_local h6 (by rw [ek, er5]; simp)
                          obtain ⟨u, eu, hu⟩ := trim_split r6
                          have e5 := strip_split h8
                          have e9 := strip_split h9
                          refine ⟨n0, n' ++ (ca ++ 62 :: (ct ++ (ck ++ 60 :: 47 :: (n0 :: n' ++ (u ++ [62]))))), ?_, Ne.symm n33, Ne.symm n47, rfl, fun g o' z hg hoo => ?_⟩
                          · rw [strip_split h1, en, ea, e2, et, ek, e5, eu, e9]
                            simp
                          · obtain ⟨g, rfl⟩ : ∃ k, g = k + 1 := ⟨g - 1, by omega⟩
                            have e : 60 :: n0 :: (n' ++ (ca ++ 62 :: (ct ++ (ck ++ 60 :: 47 :: (n0 :: n' ++ (u ++ [62])))))) ++ z = 60 :: (n0 :: n' ++ (ca ++ 62 :: (ct ++ (ck ++ 60 :: 47 :: (n0 :: n' ++ (u ++ 62 :: z)))))) := by simp
                            obtain ⟨Z, hZ⟩ : ∃ Z, n0 :: n' ++ (u ++ 62 :: z) = Z := ⟨_, rfl⟩
                            rw [hZ] at e
                            obtain ⟨z', hz'⟩ := hk1 (ct ++ (ck ++ 60 :: 47 :: Z))
                            have hnl : nameL (n0 :: n' ++ (ca ++ 62 :: (ct ++ (ck ++ 60 :: 47 :: Z)))) = some (n0 :: n', ca ++ 62 :: (ct ++ (ck ++ 60 :: 47 :: Z))) := by
                              rw [hz']
                              exact name_local h2 hk0 z'
                            rw [e, elemGo, strip1]
                            simp only
                            rw [hnl]
                            simp only
                            by_cases ho' : 62 < o'
                            · rw [if_pos ho']
                              exact .inr ⟨by omega, rfl⟩
                            · rw [if_neg ho', hca _ (62 :: (ct ++ (ck ++ 60 :: 47 :: Z))) (.inl ⟨_, rfl⟩) (by rw [List.length_append]; omega)]
                              simp only
                              rw [strip_no [62] _ (show (47 : UInt8) ≠ 62 by decide)]
                              simp only
                              rw [strip1]
                              simp only
                              rw [hct _ (hstop Z)]
                              simp only
                              rcases hck g (o' + 1) Z (by omega) (by omega) with hk | ⟨hlt, hk⟩
                              · rw [hk]
                                simp only
                                rw [← hZ, show 60 :: 47 :: (n0 :: n' ++ (u ++ 62 :: z)) = (60 :: 47 :: (n0 :: n')) ++ (u ++ 62 :: z) from rfl, strip_app]
                                simp only
                                rw [trim_app hu, trim_own _ (by decide), strip1]
                                exact .inl rfl
                              · rw [hk]
                                exact .inr ⟨by omega, rfl⟩
    · intro o l acc ks r h
      unfold kidsGo at h
      by_cases h0 : Lib.hasPrefix l [60, 47] = true
      · rw [if_pos h0] at h
        cases h
        obtain ⟨r', e⟩ := has_split h0
        refine ⟨[], r', rfl, e, fun z => stop_other z (by decide), fun g o' z hg hoo => ?_⟩
        obtain ⟨g, rfl⟩ : ∃ k, g = k + 1 := ⟨g - 1, by omega⟩
        left
        rw [List.nil_append, kidsGo, if_pos (show Lib.hasPrefix (60 :: 47 :: z) [60, 47] = true from has_app [60, 47] z)]
      · rw [if_neg h0] at h
        cases h1 : stripX [60, 33, 45, 45] l with
        | some r1 =>
          rw [h1] at h
          simp only at h
          cases h2 : commentL r1 with
          | none => rw [h2] at h; cases h
          | some x =>
            obtain ⟨v, r2⟩ := x
            rw [h2] at h
            simp only at h
            cases h3 : textL r2 with
            | none => rw [h3] at h; cases h
            | some x =>
              obtain ⟨ks1, r3⟩ := x
              rw [h3] at h
              simp only at h
              obtain ⟨c3, r', e3, er, hstop, hc3⟩ := ihk _ _ _ _ _ h
              obtain ⟨_, ct, et, hct⟩ := text_local h3 (by rw [e3, er]; simp)
              obtain ⟨ec, hc⟩ := comment_local h2
              refine ⟨60 :: 33 :: 45 :: 45 :: (v ++ 45 :: 45 :: 62 :: (ct ++ c3)), r', by rw [strip_split h1, ec, et, e3]; simp, er, fun z => stop_remark _, fun g o' z hg hoo => ?_⟩
              obtain ⟨g, rfl⟩ : ∃ k, g = k + 1 := ⟨g - 1, by omega⟩
              have e : 60 :: 33 :: 45 :: 45 :: (v ++ 45 :: 45 :: 62 :: (ct ++ c3)) ++ 60 :: 47 :: z = [60, 33, 45, 45] ++ (v ++ 45 :: 45 :: 62 :: (ct ++ (c3 ++ 60 :: 47 :: z))) := by simp
              rw [e, kidsGo, if_neg (by rw [show ([60, 33, 45, 45] : List UInt8) ++ (v ++ 45 :: 45 :: 62 :: (ct ++ (c3 ++ 60 :: 47 :: z))) = 60 :: 33 :: (45 :: 45 :: (v ++ 45 :: 45 :: 62 :: (ct ++ (c3 ++ 60 :: 47 :: z)))) from rfl, has_no2 _ _ (by decide)]; decide), strip_app]
              simp only
              rw [hc]
              simp only
              rw [hct _ (hstop z)]
              exact hc3 g o' z (by omega) hoo
        | none =>
          rw [h1] at h
          simp only at h
          cases h2 : elemGo f o l with
          | bad => rw [h2] at h; cases h
          | nest => rw [h2] at h; cases h
          | ok t r2 =>
            rw [h2] at h
            simp only at h
            cases h3 : textL r2 with
            | none => rw [h3] at h; cases h
            | some x =>
              obtain ⟨ks1, r3⟩ := x
              rw [h3] at h
              simp only at h
              obtain ⟨c3, r', e3, er, hstop, hc3⟩ := ihk _ _ _ _ _ h
              obtain ⟨_, ct, et, hct⟩ := text_local h3 (by rw [e3, er]; simp)
              obtain ⟨b, ce, ee, hb33, hb47, _, hce⟩ := ihe _ _ _ _ h2
              refine ⟨60 :: b :: (ce ++ (ct ++ c3)), r', by rw [ee, et, e3]; simp, er, fun z => stop_other _ hb33, fun g o' z hg hoo => ?_⟩
              obtain ⟨g, rfl⟩ : ∃ k, g = k + 1 := ⟨g - 1, by omega⟩
              have e : 60 :: b :: (ce ++ (ct ++ c3)) ++ 60 :: 47 :: z = 60 :: b :: ce ++ (ct ++ (c3 ++ 60 :: 47 :: z)) := by simp
              have e0 : 60 :: b :: ce ++ (ct ++ (c3 ++ 60 :: 47 :: z)) = 60 :: b :: (ce ++ (ct ++ (c3 ++ 60 :: 47 :: z))) := rfl
              rw [e, kidsGo, if_neg (by rw [e0, has_no2 _ _ (Ne.symm hb47)]; decide), e0, strip_no2 _ _ (Ne.symm hb33), ← e0]
              simp only
              rcases hce g o' (ct ++ (c3 ++ 60 :: 47 :: z)) (by omega) hoo with hk | ⟨hlt, hk⟩
              · rw [hk]
                simp only
                rw [hct _ (hstop z)]
                exact hc3 g o' z (by omega) hoo
              · rw [hk]
                exact .inr ⟨hlt, rfl⟩
end Go.Proofs.YtpdaldpaceolnaaGreatDoor
