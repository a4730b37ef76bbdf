/- Line ends byte by byte; beginnings of documents. No condition beyond what the theorems state. -/
import Derived.Test.YtpdaldpaceolnaaGreatDoorLocal
import Derived.Test.YtpdaldpaceolnaaGreatDoorDeepPlain
namespace Go.Proofs.YtpdaldpaceolnaaGreatDoor
open Go.RowKit Go.Lib
set_option maxRecDepth 100000
set_option maxHeartbeats 4000000
theorem all_eq (s o n : List UInt8) (hne : o ≠ n) : Lib.replaceAll s o n = Lib.replaceK o n (Lib.count s o) s := by
  unfold Lib.replaceAll Lib.replace Lib.replaceNum
  rw [if_neg (by simpa using hne), if_pos (.inl (by decide))]
theorem all_nil (o n : List UInt8) (ho : o ≠ []) (hne : o ≠ n) : Lib.replaceAll [] o n = [] := by
  have hi : Lib.index [] o = -1 := by
    cases o with
    | nil => exact absurd rfl ho
    | cons => rfl
  rw [all_eq _ _ _ hne, Lib.count_miss hi, Lib.replaceK]
theorem all_miss (b : UInt8) (l o n : List UInt8) (ho : o ≠ []) (hne : o ≠ n) (h : o.isPrefixOf (b :: l) = false) : Lib.replaceAll (b :: l) o n = b :: Lib.replaceAll l o n := by
  rw [all_eq _ _ _ hne, all_eq _ _ _ hne]
  have hx : Lib.index (b :: l) o = if Lib.index l o == -1 then -1 else Lib.index l o + 1 := by
    show (if o.isPrefixOf (b :: l) = true then (0 : Int) else _) = _
    rw [h]; rfl
  rcases Lib.index_spec l o with ⟨h1, _⟩ | ⟨i, h1, _⟩
  · have h2 : Lib.index (b :: l) o = -1 := by rw [hx, h1]; rfl
    rw [Lib.count_miss h1, Lib.count_miss h2, Lib.replaceK, Lib.replaceK]
  · have h2 : Lib.index (b :: l) o = ((i + 1 : Nat) : Int) := by
      rw [hx, h1, if_neg (by simp only [beq_iff_eq]; omega)]; omega
    have e1 := Lib.count_hit ho h1
    have e2 := Lib.count_hit ho h2
    have e3 : (b :: l).drop (i + 1 + o.length) = l.drop (i + o.length) := by
      rw [show i + 1 + o.length = (i + o.length) + 1 by omega, List.drop_succ_cons]
    rw [e3] at e2
    rw [e1, e2, Nat.add_comm 1, Lib.replaceK_hit o n _ _ _ h2, Lib.replaceK_hit o n _ _ _ h1, e3, List.take_succ_cons]
    rfl
theorem all_hit (l o n : List UInt8) (ho : o ≠ []) (hne : o ≠ n) : Lib.replaceAll (o ++ l) o n = n ++ Lib.replaceAll l o n := by
  rw [all_eq _ _ _ hne, all_eq _ _ _ hne]
  have h1 : Lib.index (o ++ l) o = ((0 : Nat) : Int) := by
    obtain ⟨c, cs, rfl⟩ := List.exists_cons_of_ne_nil ho
    rw [List.cons_append]
    show (if (c :: cs).isPrefixOf (c :: (cs ++ l)) = true then (0 : Int) else _) = _
    rw [if_pos (List.isPrefixOf_iff_prefix.2 (by rw [← List.cons_append]; exact List.prefix_append _ _))]
    rfl
  have e1 := Lib.count_hit ho h1
  rw [Nat.zero_add, List.drop_left] at e1
  rw [e1, Nat.add_comm 1, Lib.replaceK_hit o n _ _ _ h1, Nat.zero_add, List.drop_left]
  simp
/-- Line ends made one, byte by byte. -/
def lf : List UInt8 → List UInt8
  | [] => []
  | [b] => [if b = 13 then 10 else b]
  | b :: c :: l => if b = 13 then (if c = 10 then 10 :: lf l else 10 :: lf (c :: l)) else b :: lf (c :: l)
theorem pre2 (b c : UInt8) (l : List UInt8) (h : b ≠ 13 ∨ c ≠ 10) : ([13, 10] : List UInt8).isPrefixOf (b :: c :: l) = false := by
  simp only [List.isPrefixOf, Bool.and_true, Bool.and_eq_false_iff, beq_eq_false_iff_ne]
  rcases h with h | h
  · exact .inl (Ne.symm h)
  · exact .inr (Ne.symm h)
theorem pre1 (b : UInt8) (l : List UInt8) (h : b ≠ 13) : ([13] : List UInt8).isPrefixOf (b :: l) = false := by
  simp only [List.isPrefixOf, Bool.and_true, beq_eq_false_iff_ne]
  exact Ne.symm h
theorem lines_lf : ∀ s : List UInt8, linesF s = lf s
  | [] => by
    unfold linesF
    rw [all_nil _ _ (by decide) (by decide), all_nil _ _ (by decide) (by decide), lf]
  | [b] => by
    unfold linesF
    rw [all_miss b [] [13, 10] [10] (by decide) (by decide) (by simp [List.isPrefixOf]), all_nil _ _ (by decide) (by decide), lf]
    by_cases hb : b = 13
    · subst hb
      have := all_hit [] [13] [10] (by decide) (by decide)
      rw [all_nil _ _ (by decide) (by decide)] at this
      exact this
    · rw [all_miss b [] [13] [10] (by decide) (by decide) (pre1 b [] hb), all_nil _ _ (by decide) (by decide), if_neg hb]
  | b :: c :: l => by
    have ih1 := lines_lf l
    have ih2 := lines_lf (c :: l)
    unfold linesF at ih1 ih2 ⊢
    rw [lf]
    by_cases hb : b = 13
    · subst hb
      rw [if_pos rfl]
      by_cases hc : c = 10
      · subst hc
        rw [if_pos rfl, show (13 : UInt8) :: 10 :: l = [13, 10] ++ l from rfl, all_hit l [13, 10] [10] (by decide) (by decide)]
        show Lib.replaceAll (10 :: Lib.replaceAll l [13, 10] [10]) [13] [10] = _
        rw [all_miss 10 _ [13] [10] (by decide) (by decide) (pre1 10 _ (by decide)), ih1]
      · rw [if_neg hc, all_miss 13 _ [13, 10] [10] (by decide) (by decide) (pre2 13 c l (.inr hc)), ← ih2]
        exact all_hit _ [13] [10] (by decide) (by decide)
    · rw [if_neg hb, all_miss b _ [13, 10] [10] (by decide) (by decide) (pre2 b c l (.inl hb)), all_miss b _ [13] [10] (by decide) (by decide) (pre1 b _ hb), ih2]
theorem lf_one (x : UInt8) (b : List UInt8) : ∃ b', lf (x :: b) = lf [x] ++ lf b' ∧ (b' = b ∨ (x = 13 ∧ b = 10 :: b')) := by
  cases b with
  | nil => exact ⟨[], by simp [lf], .inl rfl⟩
  | cons c l =>
    rw [lf, lf]
    by_cases hx : x = 13
    · rw [if_pos hx, if_pos hx]
      by_cases hc : c = 10
      · rw [if_pos hc]
        exact ⟨l, rfl, .inr ⟨hx, by rw [hc]⟩⟩
      · rw [if_neg hc]
        exact ⟨c :: l, rfl, .inl rfl⟩
    · rw [if_neg hx, if_neg hx]
      exact ⟨c :: l, rfl, .inl rfl⟩
theorem lf_app : ∀ a b : List UInt8, ∃ b', lf (a ++ b) = lf a ++ lf b' ∧ (b' = b ∨ (b = 10 :: b' ∧ ∃ a', a = a' ++ [13]))
  | [], b => ⟨b, by simp [lf], .inl rfl⟩
  | [x], b => by
    obtain ⟨b', h1, h2⟩ := lf_one x b
    refine ⟨b', h1, h2.imp id fun h => ⟨h.2, [], by rw [h.1]; rfl⟩⟩
  | x :: y :: l, b => by
    have up : ∀ (p : List UInt8) (q : List UInt8) (b' : List UInt8), (b' = b ∨ (b = 10 :: b' ∧ ∃ a', q = a' ++ [13])) → (b' = b ∨ (b = 10 :: b' ∧ ∃ a', p ++ q = a' ++ [13])) := fun p q b' h => h.imp id fun ⟨h1, a', h2⟩ => ⟨h1, p ++ a', by rw [h2, List.append_assoc]⟩
    obtain ⟨b1, g1, g2⟩ := lf_app l b
    obtain ⟨b2, k1, k2⟩ := lf_app (y :: l) b
    rw [List.cons_append] at k1
    rw [List.cons_append, List.cons_append, lf, lf]
    by_cases hx : x = 13
    · rw [if_pos hx, if_pos hx]
      by_cases hc : y = 10
      · rw [if_pos hc, if_pos hc, g1]
        exact ⟨b1, rfl, up [x, y] l b1 g2⟩
      · rw [if_neg hc, if_neg hc, k1]
        exact ⟨b2, rfl, up [x] (y :: l) b2 k2⟩
    · rw [if_neg hx, if_neg hx, k1]
      exact ⟨b2, rfl, up [x] (y :: l) b2 k2⟩
theorem lf_mem {y : UInt8} (h10 : y ≠ 10) (h13 : y ≠ 13) : ∀ b : List UInt8, y ∈ b → y ∈ lf b
  | [], h => by cases h
  | [x], h => by
    have := List.mem_singleton.1 h
    subst this
    rw [lf, if_neg h13]
    exact .head _
  | x :: c :: l, h => by
    have i1 := lf_mem h10 h13 l
    have i2 := lf_mem h10 h13 (c :: l)
    rw [lf]
    by_cases hx : x = 13
    · rw [if_pos hx]
      have h2 : y ∈ c :: l := (List.mem_cons.1 h).resolve_left fun e => h13 (e.trans hx)
      by_cases hc : c = 10
      · rw [if_pos hc]
        exact .tail _ (i1 ((List.mem_cons.1 h2).resolve_left fun e => h10 (e.trans hc)))
      · rw [if_neg hc]
        exact .tail _ (i2 h2)
    · rw [if_neg hx]
      rcases List.mem_cons.1 h with rfl | h
      · exact .head _
      · exact .tail _ (i2 h)
theorem lf_back {y : UInt8} : ∀ b : List UInt8, y ∈ lf b → y = 10 ∨ y ∈ b
  | [], h => by rw [lf] at h; cases h
  | [x], h => by
    rw [lf] at h
    have := List.mem_singleton.1 h
    split at this
    · exact .inl this
    · exact .inr (by rw [this]; exact .head _)
  | x :: c :: l, h => by
    have i1 := lf_back (y := y) l
    have i2 := lf_back (y := y) (c :: l)
    rw [lf] at h
    split at h
    · split at h
      · rcases List.mem_cons.1 h with h | h
        · exact .inl h
        · exact (i1 h).imp id fun h => .tail _ (.tail _ h)
      · rcases List.mem_cons.1 h with h | h
        · exact .inl h
        · exact (i2 h).imp id fun h => .tail _ h
    · rcases List.mem_cons.1 h with h | h
      · exact .inr (by rw [h]; exact .head _)
      · exact (i2 h).imp id fun h => .tail _ h
/-- What an element begins with. -/
def EBeg (z : List UInt8) : Prop := ∃ b y, z = 60 :: b :: y ∧ b ≠ 33
theorem EBeg.app {z : List UInt8} (h : EBeg z) (x : List UInt8) : EBeg (z ++ x) := by
  obtain ⟨b, y, rfl, hb⟩ := h
  exact ⟨b, y ++ x, rfl, hb⟩
theorem EBeg.trim {z : List UInt8} (h : EBeg z) : trimX z = z := by
  obtain ⟨b, y, rfl, hb⟩ := h
  exact trim_own _ (by decide)
theorem EBeg.no {z : List UInt8} (h : EBeg z) : stripX [60, 33, 45, 45] z = none := by
  obtain ⟨b, y, rfl, hb⟩ := h
  exact strip_no2 _ _ (Ne.symm hb)
theorem outGo_local : ∀ (f : Nat) (l : List UInt8) (acc a : List PT) (r : List UInt8), outGo f l acc = some (a, r) → EBeg r → ∃ c, l = c ++ r ∧ ∀ (g : Nat) (z : List UInt8), EBeg z → c.length < g → outGo g (c ++ z) acc = some (a, z)
  | 0, _, _, _, _, h, _ => by rw [outGo] at h; cases h
  | f + 1, l, acc, a, r, h, hr => by
    rw [outGo] at h
    obtain ⟨u, eu, hu⟩ := trim_split l
    cases h1 : stripX [60, 33, 45, 45] (trimX l) with
    | none =>
      rw [h1] at h
      cases h
      refine ⟨u, eu, fun g z hz hg => ?_⟩
      obtain ⟨g, rfl⟩ : ∃ k, g = k + 1 := ⟨g - 1, by omega⟩
      rw [outGo, trim_app hu, hz.trim, hz.no]
    | some r1 =>
      rw [h1] at h
      simp only at h
      cases h2 : commentL r1 with
      | none => rw [h2] at h; cases h
      | some x =>
        obtain ⟨v, r2⟩ := x
        rw [h2] at h
        simp only at h
        obtain ⟨c, ec, hc⟩ := outGo_local f r2 _ a r h hr
        obtain ⟨e2, hcm⟩ := comment_local h2
        refine ⟨u ++ ([60, 33, 45, 45] ++ (v ++ 45 :: 45 :: 62 :: c)), ?_, fun g z hz hg => ?_⟩
        · rw [eu, strip_split h1, e2, ec]; simp
        · obtain ⟨g, rfl⟩ : ∃ k, g = k + 1 := ⟨g - 1, by omega⟩
          have e : u ++ ([60, 33, 45, 45] ++ (v ++ 45 :: 45 :: 62 :: c)) ++ z = u ++ ([60, 33, 45, 45] ++ (v ++ 45 :: 45 :: 62 :: (c ++ z))) := by simp
          have ht : trimX ([60, 33, 45, 45] ++ (v ++ 45 :: 45 :: 62 :: (c ++ z))) = [60, 33, 45, 45] ++ (v ++ 45 :: 45 :: 62 :: (c ++ z)) := trim_own _ (by decide)
          rw [e, outGo, trim_app hu, ht, strip_app]
          simp only
          rw [hcm]
          exact hc g z hz (by simp at hg; omega)
theorem outGo_kinds : ∀ (f : Nat) (l : List UInt8) (acc a : List PT) (r : List UInt8), outGo f l acc = some (a, r) → ∃ d, a = acc ++ d ∧ (∀ t ∈ d, t.k = 5) ∧ (d = [] → r = trimX l)
  | 0, _, _, _, _, h => by rw [outGo] at h; cases h
  | f + 1, l, acc, a, r, h => by
    rw [outGo] at h
    cases h1 : stripX [60, 33, 45, 45] (trimX l) with
    | none =>
      rw [h1] at h
      cases h
      exact ⟨[], (List.append_nil acc).symm, (fun t ht => by cases ht), fun _ => rfl⟩
    | some r1 =>
      rw [h1] at h
      simp only at h
      cases h2 : commentL r1 with
      | none => rw [h2] at h; cases h
      | some x =>
        obtain ⟨v, r2⟩ := x
        rw [h2] at h
        simp only at h
        obtain ⟨d, ed, hd, _⟩ := outGo_kinds f r2 _ a r h
        refine ⟨.mk 5 [] v [] [] :: d, by rw [ed]; simp, fun t ht => ?_, (fun h => by cases h)⟩
        rcases List.mem_cons.1 ht with rfl | ht
        · rfl
        · exact hd t ht
/-- What makes a document. -/
theorem doc_parts {l : List UInt8} {T : PT} {q : List UInt8} (h : docF l = .ok T q) : ∃ a r t r2 b, outL l = some (a, r) ∧ elemGo (2 * r.length + 2) 0 r = .ok t r2 ∧ outL r2 = some (b, []) ∧ T = .mk 1 [] [] [] (a ++ [t] ++ b) ∧ q = [] ∧ (∀ x ∈ a, x.k = 5) ∧ (∀ x ∈ b, x.k = 5) ∧ t.k = 2 := by
  unfold docF at h
  cases h1 : outL l with
  | none => rw [h1] at h; cases h
  | some x =>
    obtain ⟨a, r⟩ := x
    rw [h1] at h
    simp only at h
    cases h2 : elemGo (2 * r.length + 2) 0 r with
    | bad => rw [h2] at h; cases h
    | nest => rw [h2] at h; cases h
    | ok t r2 =>
      rw [h2] at h
      simp only at h
      cases h3 : outL r2 with
      | none => rw [h3] at h; cases h
      | some x =>
        obtain ⟨b, r3⟩ := x
        rw [h3] at h
        simp only at h
        split at h
        · rename_i h4
          subst h4
          cases h
          obtain ⟨d1, e1, hd1, _⟩ := outGo_kinds _ _ _ _ _ h1
          obtain ⟨d2, e2, hd2, _⟩ := outGo_kinds _ _ _ _ _ h3
          rw [List.nil_append] at e1 e2
          subst e1
          subst e2
          obtain ⟨_, _, _, _, _, hk, _⟩ := (ek_local _).1 _ _ _ _ h2
          exact ⟨a, r, t, r2, b, rfl, h2, h3, rfl, rfl, hd1, hd2, hk⟩
        · cases h
/-- A document that is longer than another one: what the longer one has more is spaces, if nothing but spaces stands behind its element. -/
theorem doc_longer {l x : List UInt8} {T T' : PT} {q q' : List UInt8} {ks : List PT} {t : PT} (h : docF (l ++ x) = .ok T q) (h' : docF l = .ok T' q') (hT : T = .mk 1 [] [] [] (ks ++ [t])) (ht : t.k = 2) : ∀ y ∈ x, spX.contains y = true := by
  obtain ⟨a', r', t', r2', b', o1, e1, o2, _⟩ := doc_parts h'
  obtain ⟨b0, c0, er, hb0, _, _, hel⟩ := (ek_local _).1 _ _ _ _ e1
  have hbeg : EBeg r' := ⟨b0, c0 ++ r2', by rw [er]; rfl, hb0⟩
  obtain ⟨co, ec, hco⟩ := outGo_local _ _ _ _ _ o1 hbeg
  have o3 : outL (l ++ x) = some (a', r' ++ x) := by
    unfold outL
    have := hco ((l ++ x).length + 1) (r' ++ x) (hbeg.app x) (by rw [ec]; simp only [List.length_append]; omega)
    rw [← List.append_assoc, ← ec] at this
    exact this
  obtain ⟨a, r, t2, r2, b, p1, p2, p3, p4, _, _, p7, _⟩ := doc_parts h
  rw [o3] at p1
  cases p1
  have e2 := hel (2 * (r' ++ x).length + 2) 0 (r2' ++ x) (by rw [List.length_append]; omega) (Nat.le_refl _)
  rw [← List.append_assoc, ← er] at e2
  rcases e2 with e2 | ⟨h0, _⟩
  · rw [e2] at p2
    cases p2
    have hb : b = [] := by
      rcases List.eq_nil_or_concat b with hb | ⟨b2, z, hb⟩
      · exact hb
      · exfalso
        rw [hb, List.concat_eq_append] at p4 p7
        have hz := p7 z (by simp)
        rw [hT] at p4
        have e3 : ks ++ [t] = (a' ++ [t'] ++ b2) ++ [z] := by
          have := congrArg (fun T : PT => match T with | .mk _ _ _ _ k => k) p4
          simpa using this
        have := (List.append_inj' e3 rfl).2
        cases this
        omega
    subst hb
    obtain ⟨d, e4, _, e5⟩ := outGo_kinds _ _ _ _ _ p3
    have hd : d = [] := by simpa using e4.symm
    have ht0 := e5 hd
    obtain ⟨u, eu, hu⟩ := trim_split (r2' ++ x)
    rw [← ht0, List.append_nil] at eu
    intro y hy
    exact hu y (by rw [← eu]; exact List.mem_append_right _ hy)
  · omega
/-- P8.1 of beginnings: the plain fact. -/
theorem cuts_fact {s : List UInt8} {k : Nat} {T T' : PT} {q q' : List UInt8} {ks : List PT} {t : PT} (h : docF (linesF s) = .ok T q) (h' : docF (linesF (s.take k)) = .ok T' q') (hT : T = .mk 1 [] [] [] (ks ++ [t])) (ht : t.k = 2) : ∀ y ∈ s.drop k, y = 9 ∨ y = 10 ∨ y = 13 ∨ y = 32 := by
  rw [lines_lf] at h h'
  obtain ⟨b', e, hb'⟩ := lf_app (s.take k) (s.drop k)
  rw [List.take_append_drop] at e
  rw [e] at h
  have hx := doc_longer h h' hT ht
  intro y hy
  by_cases h10 : y = 10
  · exact .inr (.inl h10)
  by_cases h13 : y = 13
  · exact .inr (.inr (.inl h13))
  have hy' : y ∈ b' := by
    rcases hb' with rfl | ⟨hb', _⟩
    · exact hy
    · rw [hb'] at hy
      exact (List.mem_cons.1 hy).resolve_left h10
  have := hx y (lf_mem h10 h13 b' hy')
  unfold spX at this
  simp at this
  rcases this with h | h | h
  · exact .inl h
  · exact absurd h h10
  · exact .inr (.inr (.inr h))
/-- A document that is one is not of spaces alone. -/
theorem doc_some {s : List UInt8} {T : PT} {q : List UInt8} (h : docF (linesF s) = .ok T q) : ∃ y ∈ s, y = 60 := by
  obtain ⟨a', r', t', r2', b', o1, e1, _⟩ := doc_parts h
  obtain ⟨b0, c0, er, hb0, _⟩ := (ek_local _).1 _ _ _ _ e1
  have hbeg : EBeg r' := ⟨b0, c0 ++ r2', by rw [er]; rfl, hb0⟩
  obtain ⟨co, ec, _⟩ := outGo_local _ _ _ _ _ o1 hbeg
  have hm : (60 : UInt8) ∈ lf s := by
    rw [← lines_lf, ec, er]
    exact List.mem_append_right _ (.head _)
  rcases lf_back s hm with h | h
  · cases h
  · exact ⟨60, h, rfl⟩
end Go.Proofs.YtpdaldpaceolnaaGreatDoor
