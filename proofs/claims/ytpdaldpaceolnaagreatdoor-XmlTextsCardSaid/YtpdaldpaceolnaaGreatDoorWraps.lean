/- Documents between spaces and comments, and in another element. No condition beyond what the theorems state. -/
import Derived.Test.YtpdaldpaceolnaaGreatDoorCuts
namespace Go.Proofs.YtpdaldpaceolnaaGreatDoor
open Go.RowKit Go.Lib
set_option maxRecDepth 100000
set_option maxHeartbeats 4000000
theorem strip_length {p l r : List UInt8} (h : stripX p l = some r) : l.length = p.length + r.length := by
  rw [strip_split h, List.length_append]
theorem blanksL_len (s : List UInt8) : (blanksL s).length ≤ s.length := by
  unfold blanksL
  exact Nat.le_trans (replaceAll_len _ [10] [32] (by decide)) (replaceAll_len s [9] [32] (by decide))
theorem valueGo_bulk (q : UInt8) : ∀ (f : Nat) (l acc v r : List UInt8), valueGo q f l acc = some (v, r) → v.length + 2 * r.length ≤ acc.length + 2 * l.length
  | 0, _, _, _, _, h => by rw [valueGo] at h; cases h
  | f + 1, l, acc, v, r, h => by
    rw [valueGo] at h
    cases h1 : stripX [q] l with
    | some r1 =>
      rw [h1] at h
      cases h
      have := strip_length h1
      simp only [List.length_cons, List.length_nil] at this
      omega
    | none =>
      rw [h1] at h
      simp only at h
      cases h2 : stripX [38] l with
      | some r1 =>
        rw [h2] at h
        simp only at h
        have e2 := strip_length h2
        simp only [List.length_cons, List.length_nil] at e2
        cases h3 : cutF r1 with
        | none => rw [h3] at h; cases h
        | some x =>
          obtain ⟨m, rest⟩ := x
          rw [h3] at h
          simp only at h
          have e3 := cutF_len h3
          have := valueGo_bulk q f rest (acc ++ m) v r h
          rw [List.length_append] at this
          omega
      | none =>
        rw [h2] at h
        simp only at h
        split at h
        · cases h
        · rcases any_parts [60, 38, q] l with hk | ⟨u, c1, y, e, hc1, hu⟩
          · rw [hk, cutX_minus] at h
            simp only at h
            rw [valueGo_nil] at h
            cases h
          · have hk := any_at [60, 38, q] hc1 y u hu
            rw [e, hk, cut_here] at h
            simp only at h
            have := valueGo_bulk q f (c1 :: y) (acc ++ blanksL u) v r h
            have hb := blanksL_len u
            rw [List.length_append] at this
            rw [e, List.length_append]
            omega
theorem value_bulk {l v r : List UInt8} (h : valueL l = some (v, r)) : v.length + 2 * r.length + 2 ≤ 2 * l.length := by
  unfold valueL at h
  cases h1 : stripX [34] l with
  | some r1 =>
    rw [h1] at h
    have e := strip_length h1
    have := valueGo_bulk _ _ _ _ _ _ h
    simp only [List.length_cons, List.length_nil] at e this
    omega
  | none =>
    rw [h1] at h
    simp only at h
    cases h2 : stripX [39] l with
    | none => rw [h2] at h; cases h
    | some r1 =>
      rw [h2] at h
      have e := strip_length h2
      have := valueGo_bulk _ _ _ _ _ _ h
      simp only [List.length_cons, List.length_nil] at e this
      omega
theorem bulkP_app : ∀ a b : List (List UInt8 × List UInt8), bulkP (a ++ b) = bulkP a + bulkP b
  | [], b => by rw [List.nil_append, bulkP, Nat.zero_add]
  | p :: a, b => by rw [List.cons_append, bulkP, bulkP, bulkP_app a b]; omega
theorem bulkL_app : ∀ a b : List PT, bulkL (a ++ b) = bulkL a + bulkL b
  | [], b => by rw [List.nil_append, bulkL, Nat.zero_add]
  | p :: a, b => by rw [List.cons_append, bulkL, bulkL, bulkL_app a b]; omega
theorem name_len {l n r : List UInt8} (h : nameL l = some (n, r)) : l.length = n.length + r.length ∧ 0 < n.length := by
  obtain ⟨e, hn⟩ := name_split h
  rw [e, List.length_append]
  exact ⟨rfl, nameX_ne hn⟩
theorem attrsGo_bulk : ∀ (f : Nat) (l : List UInt8) (acc ps : List (List UInt8 × List UInt8)) (r : List UInt8), attrsGo f l acc = some (ps, r) → bulkP ps + 4 * r.length ≤ bulkP acc + 4 * l.length
  | 0, _, _, _, _, h => by rw [attrsGo] at h; cases h
  | f + 1, l, acc, ps, r, h => by
    rw [attrsGo] at h
    have ht := trimX_le l
    split at h
    · cases h1 : nameL (trimX l) with
      | none => rw [h1] at h; cases h
      | some x =>
        obtain ⟨n, r1⟩ := x
        rw [h1] at h
        simp only at h
        split at h
        · cases h
        · cases h2 : stripX [61] (trimX r1) with
          | none => rw [h2] at h; cases h
          | some r2 =>
            rw [h2] at h
            simp only at h
            cases h3 : valueL (trimX r2) with
            | none => rw [h3] at h; cases h
            | some y =>
              obtain ⟨v, r3⟩ := y
              rw [h3] at h
              simp only at h
              have e1 := name_len h1
              have e2 := strip_length h2
              have e3 := value_bulk h3
              have t1 := trimX_le r1
              have t2 := trimX_le r2
              have := attrsGo_bulk f r3 _ ps r h
              rw [bulkP_app, bulkP, bulkP] at this
              dsimp only at this
              simp only [List.length_cons, List.length_nil] at e2
              omega
    · cases h
      omega
theorem textGo_bulk : ∀ (f : Nat) (l acc a r : List UInt8), textGo f l acc = some (a, r) → a.length + 2 * r.length ≤ acc.length + 2 * l.length
  | 0, _, _, _, _, h => by rw [textGo] at h; cases h
  | f + 1, l, acc, a, r, h => by
    rw [textGo] at h
    cases h1 : stripX cdataB l with
    | some r1 =>
      rw [h1] at h
      simp only at h
      have e1 := strip_length h1
      cases h3 : upL [93, 93, 62] r1 with
      | none => rw [h3] at h; cases h
      | some x =>
        obtain ⟨v, rest⟩ := x
        rw [h3] at h
        simp only at h
        have e3 := congrArg List.length (up_split h3)
        have := textGo_bulk f rest (acc ++ v) a r h
        rw [List.length_append] at this
        rw [List.length_append, List.length_append] at e3
        omega
    | none =>
      rw [h1] at h
      simp only at h
      cases h2 : stripX [38] l with
      | some r1 =>
        rw [h2] at h
        simp only at h
        have e2 := strip_length h2
        simp only [List.length_cons, List.length_nil] at e2
        cases h3 : cutF r1 with
        | none => rw [h3] at h; cases h
        | some x =>
          obtain ⟨m, rest⟩ := x
          rw [h3] at h
          simp only at h
          have e3 := cutF_len h3
          have := textGo_bulk f rest (acc ++ m) a r h
          rw [List.length_append] at this
          omega
      | none =>
        rw [h2] at h
        simp only at h
        split at h
        · cases h
          omega
        · split at h
          · cases h
          · rcases any_parts [60, 38] l with hk | ⟨u, c1, y, e, hc1, hu⟩
            · rw [hk, cutX_minus] at h
              have := textGo_bulk f [] (acc ++ l) a r h
              rw [List.length_append] at this
              simp only [List.length_nil] at this
              omega
            · have hk := any_at [60, 38] hc1 y u hu
              rw [e, hk, cut_here] at h
              have := textGo_bulk f (c1 :: y) (acc ++ u) a r h
              rw [List.length_append] at this
              rw [e, List.length_append]
              omega
theorem text_bulk {l : List UInt8} {ks : List PT} {r : List UInt8} (h : textL l = some (ks, r)) : bulkL ks + 4 * r.length ≤ 4 * l.length := by
  unfold textL at h
  cases hg : textGo (l.length + 1) l [] with
  | none => rw [hg] at h; cases h
  | some x =>
    obtain ⟨a, r'⟩ := x
    rw [hg] at h
    cases h
    have := textGo_bulk _ _ _ _ _ hg
    simp only [List.length_nil] at this
    dsimp only
    unfold textK
    split
    · rw [bulkL]; omega
    · rename_i ha
      have : 0 < a.length := by cases a with
        | nil => exact absurd rfl ha
        | cons => simp
      rw [bulkL, bulkL, PT.bulk, bulkP, bulkL]
      simp only [List.length_nil]
      omega
theorem comment_bulk {l v r : List UInt8} (h : commentL l = some (v, r)) : l.length = v.length + 3 + r.length := by
  rw [(comment_local h).1]
  simp only [List.length_append, List.length_cons]
  omega
theorem ek_bulk : ∀ f : Nat, (∀ (o : Nat) (l : List UInt8) (t : PT) (r : List UInt8), elemGo f o l = .ok t r → t.bulk + 4 * r.length ≤ 4 * l.length) ∧ (∀ (o : Nat) (l : List UInt8) (acc ks : List PT) (r : List UInt8), kidsGo f o l acc = .ok ks r → bulkL ks + 4 * r.length ≤ bulkL acc + 4 * l.length) := by
  intro f
  induction f with
  | zero => exact ⟨fun o l t r h => (by unfold elemGo at h; cases h), fun o l acc ks r h => (by unfold kidsGo at h; cases h)⟩
  | succ f ih =>
    obtain ⟨ihe, ihk⟩ := ih
    constructor
    · intro o l t r h
      unfold elemGo at h
      cases h1 : stripX [60] l with
      | none => rw [h1] at h; cases h
      | some r0 =>
        rw [h1] at h
        simp only at h
        have e1 := strip_length h1
        simp only [List.length_cons, List.length_nil] at e1
        cases h2 : nameL r0 with
        | none => rw [h2] at h; cases h
        | some x =>
          obtain ⟨n, r1⟩ := x
          rw [h2] at h
          simp only at h
          have e2 := name_len h2
          by_cases ho : 62 < o
          · rw [if_pos ho] at h; cases h
          · rw [if_neg ho] at h
            cases h3 : attrsGo (r1.length + 1) r1 [] with
            | none => rw [h3] at h; cases h
            | some x =>
              obtain ⟨ps, r2⟩ := x
              rw [h3] at h
              simp only at h
              have e3 := attrsGo_bulk _ _ _ _ _ h3
              rw [bulkP] at e3
              cases h4 : stripX [47, 62] r2 with
              | some r3 =>
                rw [h4] at h
                simp only at h
                cases h
                have e4 := strip_length h4
                rw [PT.bulk, bulkL]
                simp only [List.length_cons, List.length_nil] at e4 ⊢
                omega
              | none =>
                rw [h4] at h
                simp only at h
                cases h5 : stripX [62] r2 with
                | none => rw [h5] at h; cases h
                | some r3 =>
                  rw [h5] at h
                  simp only at h
                  have e5 := strip_length h5
                  cases h6 : textL r3 with
                  | none => rw [h6] at h; cases h
                  | some x =>
                    obtain ⟨ks, r4⟩ := x
                    rw [h6] at h
                    simp only at h
                    have e6 := text_bulk h6
                    cases h7 : kidsGo f (o + 1) r4 ks with
                    | bad => rw [h7] at h; cases h
                    | nest => rw [h7] at h; cases h
                    | ok ks2 r5 =>
                      rw [h7] at h
                      simp only at h
                      have e7 := ihk _ _ _ _ _ h7
                      cases h8 : stripX (60 :: 47 :: n) r5 with
                      | none => rw [h8] at h; cases h
                      | some r6 =>
                        rw [h8] at h
                        simp only at h
                        have e8 := strip_length h8
                        cases h9 : stripX [62] (trimX r6) with
                        | none => rw [h9] at h; cases h
                        | some r7 =>
                          rw [h9] at h
                          simp only at h
                          cases h
                          have e9 := strip_length h9
                          have t9 := trimX_le r6
                          rw [PT.bulk]
                          simp only [List.length_cons, List.length_nil] at e5 e8 e9 ⊢
                          omega
    · intro o l acc ks r h
      unfold kidsGo at h
      by_cases h0 : Lib.hasPrefix l [60, 47] = true
      · rw [if_pos h0] at h
        cases h
        omega
      · rw [if_neg h0] at h
        cases h1 : stripX [60, 33, 45, 45] l with
        | some r1 =>
          rw [h1] at h
          simp only at h
          have e1 := strip_length h1
          cases h2 : commentL r1 with
          | none => rw [h2] at h; cases h
          | some x =>
            obtain ⟨v, r2⟩ := x
            rw [h2] at h
            simp only at h
            have e2 := comment_bulk h2
            cases h3 : textL r2 with
            | none => rw [h3] at h; cases h
            | some x =>
              obtain ⟨ks1, r3⟩ := x
              rw [h3] at h
              simp only at h
              have e3 := text_bulk h3
              have e4 := ihk _ _ _ _ _ h
              rw [bulkL_app, bulkL_app, bulkL, bulkL, PT.bulk, bulkP, bulkL] at e4
              simp only [List.length_cons, List.length_nil] at e1 e4
              omega
        | none =>
          rw [h1] at h
          simp only at h
          cases h2 : elemGo f o l with
          | bad => rw [h2] at h; cases h
          | nest => rw [h2] at h; cases h
          | ok t r2 =>
            rw [h2] at h
            simp only at h
            have e2 := ihe _ _ _ _ h2
            cases h3 : textL r2 with
            | none => rw [h3] at h; cases h
            | some x =>
              obtain ⟨ks1, r3⟩ := x
              rw [h3] at h
              simp only at h
              have e3 := text_bulk h3
              have e4 := ihk _ _ _ _ _ h
              rw [bulkL_app, bulkL_app, bulkL, bulkL] at e4
              omega
theorem outGo_bulk : ∀ (f : Nat) (l : List UInt8) (acc a : List PT) (r : List UInt8), outGo f l acc = some (a, r) → bulkL a + 4 * r.length ≤ bulkL acc + 4 * l.length
  | 0, _, _, _, _, h => by rw [outGo] at h; cases h
  | f + 1, l, acc, a, r, h => by
    rw [outGo] at h
    have ht := trimX_le l
    cases h1 : stripX [60, 33, 45, 45] (trimX l) with
    | none =>
      rw [h1] at h
      cases h
      omega
    | some r1 =>
      rw [h1] at h
      simp only at h
      have e1 := strip_length h1
      cases h2 : commentL r1 with
      | none => rw [h2] at h; cases h
      | some x =>
        obtain ⟨v, r2⟩ := x
        rw [h2] at h
        simp only at h
        have e2 := comment_bulk h2
        have e3 := outGo_bulk f r2 _ a r h
        rw [bulkL_app, bulkL, bulkL, PT.bulk, bulkP, bulkL] at e3
        simp only [List.length_cons, List.length_nil] at e1 e3
        omega
theorem doc_bulk {l : List UInt8} {T : PT} {q : List UInt8} (h : docF l = .ok T q) : T.bulk ≤ 1 + 4 * l.length := by
  obtain ⟨a, r, t, r2, b, h1, h2, h3, rfl, _⟩ := doc_parts h
  have e1 := outGo_bulk _ _ _ _ _ h1
  have e2 := (ek_bulk _).1 _ _ _ _ h2
  have e3 := outGo_bulk _ _ _ _ _ h3
  rw [bulkL] at e1 e3
  rw [PT.bulk, bulkL_app, bulkL_app, bulkL, bulkL, bulkP]
  simp only [List.length_nil] at *
  omega
theorem doc_fits {l : List UInt8} {T : PT} {q : List UInt8} (h : docF l = .ok T q) (hl : l.length ≤ 200000) : T.fit := fit_of_bulk (by have := doc_bulk h; omega)
end Go.Proofs.YtpdaldpaceolnaaGreatDoor
namespace Go.Proofs.YtpdaldpaceolnaaGreatDoor
open Go.RowKit Go.Lib
set_option maxRecDepth 100000
set_option maxHeartbeats 4000000
theorem outGo_acc : ∀ (f : Nat) (l : List UInt8) (acc : List PT), outGo f l acc = (outGo f l []).map fun x => (acc ++ x.1, x.2)
  | 0, _, _ => by rw [outGo, outGo]; rfl
  | f + 1, l, acc => by
    rw [outGo, outGo]
    cases h1 : stripX [60, 33, 45, 45] (trimX l) with
    | none => simp
    | some r1 =>
      simp only
      cases h2 : commentL r1 with
      | none => rfl
      | some x =>
        obtain ⟨v, r2⟩ := x
        simp only
        rw [outGo_acc f r2 (acc ++ [PT.mk 5 [] v [] []]), outGo_acc f r2 ([] ++ [PT.mk 5 [] v [] []])]
        cases outGo f r2 [] with
        | none => rfl
        | some y => simp
theorem out_blank (g : Nat) {b : UInt8} (hb : spX.contains b = true) (z : List UInt8) (acc : List PT) : outGo (g + 1) (b :: z) acc = outGo (g + 1) z acc := by
  rw [outGo, outGo, trim_cons, if_pos hb]
theorem out_end : ∀ (f : Nat) (l : List UInt8) (acc a : List PT), outGo f l acc = some (a, []) → ∀ (b : UInt8), spX.contains b = true → ∀ g, l.length + 1 < g → outGo g (l ++ [b]) acc = some (a, [])
  | 0, _, _, _, h, _, _, _, _ => by rw [outGo] at h; cases h
  | f + 1, l, acc, a, h, b, hb, g, hg => by
    obtain ⟨g, rfl⟩ : ∃ k, g = k + 1 := ⟨g - 1, by omega⟩
    rw [outGo] at h
    obtain ⟨u, eu, hu⟩ := trim_split l
    cases h1 : stripX [60, 33, 45, 45] (trimX l) with
    | none =>
      rw [h1] at h
      simp only [Option.some.injEq, Prod.mk.injEq] at h
      obtain ⟨rfl, ht⟩ := h
      rw [ht, List.append_nil] at eu
      subst eu
      have ht2 : trimX (l ++ [b]) = [] := by rw [trim_app hu, trim_cons, if_pos hb]; rfl
      rw [outGo, ht2]
      rfl
    | some r1 =>
      rw [h1] at h
      simp only at h
      cases h2 : commentL r1 with
      | none => rw [h2] at h; cases h
      | some x =>
        obtain ⟨v, r2⟩ := x
        rw [h2] at h
        simp only at h
        obtain ⟨e2, hcm⟩ := comment_local h2
        have e1 := strip_split h1
        have el : l ++ [b] = u ++ ([60, 33, 45, 45] ++ (v ++ 45 :: 45 :: 62 :: (r2 ++ [b]))) := by
          rw [e1, e2] at eu
          rw [eu]; simp
        have ll : r2.length + 1 < g := by
          rw [e1, e2] at eu
          have := congrArg List.length eu
          simp only [List.length_append, List.length_cons] at this
          omega
        have ht : trimX ([60, 33, 45, 45] ++ (v ++ 45 :: 45 :: 62 :: (r2 ++ [b]))) = [60, 33, 45, 45] ++ (v ++ 45 :: 45 :: 62 :: (r2 ++ [b])) := trim_own _ (by decide)
        rw [el, outGo, trim_app hu, ht, strip_app]
        simp only
        rw [hcm]
        exact out_end f r2 _ a h b hb g ll
theorem comment_calc (v z : List UInt8) (hv : ∀ x ∈ v, x ≠ 45) : commentL (v ++ 45 :: 45 :: 62 :: z) = some (v, z) := by
  have hi : Lib.index (v ++ ([45, 45] ++ 62 :: z)) [45, 45] = (v.length : Int) := by
    refine Lib.index_first (by rw [List.length_append]; omega) ?_ ?_
    · unfold Lib.occAt
      rw [List.drop_left]
      exact List.isPrefixOf_iff_prefix.2 (List.prefix_append _ _)
    · intro j hj
      unfold Lib.occAt
      rw [List.drop_append_of_le_length (by omega), List.drop_eq_getElem_cons hj, List.cons_append]
      have := hv _ (List.getElem_mem hj)
      simp only [List.isPrefixOf, Bool.and_eq_false_iff, beq_eq_false_iff_ne]
      exact .inl (Ne.symm this)
  have hc : Lib.cut (v ++ ([45, 45] ++ 62 :: z)) [45, 45] = (v, 62 :: z, true) := by
    unfold Lib.cut
    rw [hi, if_pos (by omega), Int.toNat_natCast, List.take_left, ← List.drop_drop, List.drop_left, List.drop_left]
  unfold commentL upL
  rw [show v ++ 45 :: 45 :: 62 :: z = v ++ ([45, 45] ++ 62 :: z) from rfl, hc]
  simp only [if_true, strip1]
theorem lf_cons {x : UInt8} (h : x ≠ 13) (y : List UInt8) : lf (x :: y) = x :: lf y := by
  cases y with
  | nil =>
    show [if x = 13 then 10 else x] = [x]
    rw [if_neg h]
  | cons c l => rw [lf, if_neg h]
theorem lf_plain : ∀ (a b : List UInt8), (∀ x ∈ a, x ≠ 13) → lf (a ++ b) = a ++ lf b
  | [], _, _ => rfl
  | x :: a, b, h => by
    rw [List.cons_append, lf_cons (h x (.head _)), lf_plain a b fun y hy => h y (.tail _ hy), List.cons_append]
theorem lf_behind (s : List UInt8) (c : UInt8) (y : List UInt8) (hc : c ≠ 10) (h : ∀ x ∈ c :: y, x ≠ 13) : lf (s ++ c :: y) = lf s ++ c :: y := by
  obtain ⟨b', e, hb⟩ := lf_app s (c :: y)
  rcases hb with rfl | ⟨hb, _⟩
  · have := lf_plain (c :: y) [] h
    rw [List.append_nil] at this
    rw [e, this, show lf [] = [] from rfl, List.append_nil]
  · exact absurd (List.cons.inj hb).1 hc
/-- What stands between spaces and a remark. -/
theorem wrap_doc {s rm : List UInt8} {ks : List PT} {q : List UInt8} (h : docF (linesF s) = .ok (.mk 1 [] [] [] ks) q) (hrm : ∀ x ∈ rm, x ≠ 45 ∧ x ≠ 13) : docF (linesF ([32, 60, 33, 45, 45] ++ rm ++ [45, 45, 62, 10] ++ s ++ [9])) = .ok (.mk 1 [] [] [] (.mk 5 [] rm [] [] :: ks)) [] := by
  rw [lines_lf] at h ⊢
  obtain ⟨l, hl⟩ : ∃ l, lf s = l := ⟨_, rfl⟩
  have e1 : lf ([32, 60, 33, 45, 45] ++ rm ++ [45, 45, 62, 10] ++ s ++ [9]) = 32 :: ([60, 33, 45, 45] ++ (rm ++ 45 :: 45 :: 62 :: (10 :: (l ++ [9])))) := by
    rw [List.append_assoc ([32, 60, 33, 45, 45] ++ rm ++ [45, 45, 62, 10]), lf_plain ([32, 60, 33, 45, 45] ++ rm ++ [45, 45, 62, 10]) (s ++ [9]) ?_, lf_behind s 9 [] (by decide) (by decide), hl]
    · simp
    · intro x hx
      rcases List.mem_append.1 hx with hx | hx
      · rcases List.mem_append.1 hx with hx | hx
        · exact (show ∀ x ∈ ([32, 60, 33, 45, 45] : List UInt8), x ≠ 13 by decide) x hx
        · exact (hrm x hx).2
      · exact (show ∀ x ∈ ([45, 45, 62, 10] : List UInt8), x ≠ 13 by decide) x hx
  rw [hl] at h
  obtain ⟨a, r, t, r2, b, o1, o2, o3, hT, _⟩ := doc_parts h
  obtain ⟨b0, c0, er, hb0, _, _, hel⟩ := (ek_local _).1 _ _ _ _ o2
  have hbeg : EBeg r := ⟨b0, c0 ++ r2, by rw [er]; rfl, hb0⟩
  obtain ⟨co, ec, hco⟩ := outGo_local _ _ _ _ _ o1 hbeg
  have hks : ks = a ++ [t] ++ b := by injection hT
  have p1 : outL (32 :: ([60, 33, 45, 45] ++ (rm ++ 45 :: 45 :: 62 :: (10 :: (l ++ [9]))))) = some (.mk 5 [] rm [] [] :: a, r ++ [9]) := by
    unfold outL
    obtain ⟨n, hn⟩ : ∃ n, (32 :: ([60, 33, 45, 45] ++ (rm ++ 45 :: 45 :: 62 :: (10 :: (l ++ [9]))))).length = n + 1 := ⟨_, rfl⟩
    have hln : l.length < n := by
      simp only [List.length_append, List.length_cons, List.length_nil] at hn
      omega
    rw [hn, outGo, trim_cons, if_pos (by decide), show trimX ([60, 33, 45, 45] ++ (rm ++ 45 :: 45 :: 62 :: (10 :: (l ++ [9])))) = [60, 33, 45, 45] ++ (rm ++ 45 :: 45 :: 62 :: (10 :: (l ++ [9]))) from trim_own _ (by decide), strip_app]
    simp only
    rw [comment_calc _ _ fun x hx => (hrm x hx).1]
    simp only
    rw [out_blank n (by decide), outGo_acc]
    have := hco (n + 1) (r ++ [9]) (hbeg.app [9]) (by have := congrArg List.length ec; rw [List.length_append] at this; omega)
    rw [← List.append_assoc, ← ec] at this
    rw [this]
    rfl
  have p2 := hel (2 * (r ++ [9]).length + 2) 0 (r2 ++ [9]) (by rw [List.length_append]; omega) (Nat.le_refl _)
  rw [← List.append_assoc, ← er] at p2
  rcases p2 with p2 | ⟨h0, _⟩
  · have p3 : outL (r2 ++ [9]) = some (b, []) := by
      unfold outL at o3 ⊢
      exact out_end _ _ _ _ o3 9 (by decide) _ (by rw [List.length_append, List.length_cons, List.length_nil]; omega)
    unfold docF
    rw [e1, p1]
    simp only
    rw [p2]
    simp only
    rw [p3]
    simp only
    simp only [if_true]
    rw [hks]
    simp
  · omega
end Go.Proofs.YtpdaldpaceolnaaGreatDoor
namespace Go.Proofs.YtpdaldpaceolnaaGreatDoor
open Go.RowKit Go.Lib
set_option maxRecDepth 100000
set_option maxHeartbeats 4000000
theorem sp_three {x : UInt8} (h : spX.contains x = true) : x = 9 ∨ x = 10 ∨ x = 32 := by
  unfold spX at h
  simpa using h
theorem contains_no (u : List UInt8) (h : ∀ x ∈ u, x ≠ 93) : Lib.contains u [93, 93, 62] = false := by
  have hi : Lib.index u [93, 93, 62] = -1 := by
    rcases Lib.index_spec u [93, 93, 62] with ⟨h1, _⟩ | ⟨i, _, _, h3, _⟩
    · exact h1
    · exfalso
      have := Lib.occAt_head rfl h3
      exact h 93 (List.mem_of_getElem? this) rfl
  unfold Lib.contains
  rw [hi]
  rfl
theorem text_sp {u : List UInt8} (hu : ∀ x ∈ u, spX.contains x = true) {z : List UInt8} (hz : Stop z) : textL (u ++ z) = some (textK u, z) := by
  unfold textL
  cases u with
  | nil =>
    rw [List.nil_append, textGo_stop hz]
    rfl
  | cons b u =>
    have hb := sp_three (hu b (.head _))
    have h60 : b ≠ 60 := by rcases hb with rfl | rfl | rfl <;> decide
    have h38 : (38 : UInt8) ≠ b := by rcases hb with rfl | rfl | rfl <;> decide
    obtain ⟨⟨y, rfl⟩, hcd⟩ := hz
    have hall : ∀ x ∈ b :: u, ([60, 38] : List UInt8).contains x = false := fun x hx => by
      rcases sp_three (hu x hx) with rfl | rfl | rfl <;> decide
    have e3 : b :: u ++ 60 :: y = b :: (u ++ 60 :: y) := rfl
    have hc : Lib.contains (b :: u) [93, 93, 62] = false := contains_no _ fun x hx => by
      rcases sp_three (hu x hx) with rfl | rfl | rfl <;> decide
    rw [textGo, e3, cdata_no _ h60, strip_no [] _ h38]
    simp only
    rw [if_neg (by rw [has_no [] _ (Ne.symm h60)]; simp), ← e3, any_at [60, 38] (by decide) y (b :: u) hall, cut_here]
    simp only
    rw [hc, if_neg (by decide), show (b :: u ++ 60 :: y).length = (u.length + y.length + 1) + 1 by simp; omega, textGo_stop ⟨⟨y, rfl⟩, hcd⟩]
    rfl
/-- What stands in an element, from a place on. -/
def contentGo (f o : Nat) (l : List UInt8) (acc : List PT) : XR (List PT) := match textL l with
  | none => .bad
  | some (ks, r) => kidsGo f o r (acc ++ ks)
theorem textK_no {u : List UInt8} : ∀ t ∈ textK u, t.k ≠ 2 := by
  intro t ht
  unfold textK at ht
  split at ht
  · cases ht
  · have := List.mem_singleton.1 ht
    subst this
    show (4 : Int) ≠ 2
    decide
theorem misc_in : ∀ (f : Nat) (l : List UInt8) (acc0 a : List PT) (r : List UInt8), outGo f l acc0 = some (a, r) → ∃ c ks st, l = c ++ r ∧ st ≤ c.length ∧ (∀ t ∈ ks, t.k ≠ 2) ∧ ∀ (g o : Nat) (acc : List PT) (z : List UInt8), Stop z → contentGo (g + st) o (c ++ z) acc = kidsGo g o z (acc ++ ks)
  | 0, _, _, _, _, h => by rw [outGo] at h; cases h
  | f + 1, l, acc0, a, r, h => by
    rw [outGo] at h
    obtain ⟨u, eu, hu⟩ := trim_split l
    cases h1 : stripX [60, 33, 45, 45] (trimX l) with
    | none =>
      rw [h1] at h
      cases h
      refine ⟨u, textK u, 0, eu, Nat.zero_le _, textK_no, fun g o acc z hz => ?_⟩
      unfold contentGo
      rw [text_sp hu hz]
      rfl
    | some r1 =>
      rw [h1] at h
      simp only at h
      cases h2 : commentL r1 with
      | none => rw [h2] at h; cases h
      | some x =>
        obtain ⟨v, r2⟩ := x
        rw [h2] at h
        simp only at h
        obtain ⟨c, ks, st, ec, hst, hks, hc⟩ := misc_in f r2 _ a r h
        obtain ⟨e2, hcm⟩ := comment_local h2
        refine ⟨u ++ 60 :: 33 :: 45 :: 45 :: (v ++ 45 :: 45 :: 62 :: c), textK u ++ (.mk 5 [] v [] [] :: ks), st + 1, ?_, ?_, ?_, fun g o acc z hz => ?_⟩
        · rw [eu, strip_split h1, e2, ec]; simp
        · simp only [List.length_append, List.length_cons]; omega
        · intro t ht
          rcases List.mem_append.1 ht with ht | ht
          · exact textK_no t ht
          · rcases List.mem_cons.1 ht with rfl | ht
            · show (5 : Int) ≠ 2
              decide
            · exact hks t ht
        · have e : u ++ 60 :: 33 :: 45 :: 45 :: (v ++ 45 :: 45 :: 62 :: c) ++ z = u ++ 60 :: 33 :: 45 :: 45 :: (v ++ 45 :: 45 :: 62 :: (c ++ z)) := by simp
          have hk := hc g o (acc ++ textK u ++ [.mk 5 [] v [] []]) z hz
          have e5 : 60 :: 33 :: 45 :: 45 :: (v ++ 45 :: 45 :: 62 :: (c ++ z)) = [60, 33, 45, 45] ++ (v ++ 45 :: 45 :: 62 :: (c ++ z)) := rfl
          rw [e]
          conv => lhs; unfold contentGo
          rw [text_sp hu (stop_remark _)]
          simp only
          rw [← Nat.add_assoc, kidsGo, has_no2 _ _ (by decide), if_neg (by decide), e5, strip_app]
          simp only
          rw [hcm]
          simp only
          unfold contentGo at hk
          cases ht : textL (c ++ z) with
          | none =>
            rw [ht] at hk
            simp only at hk ⊢
            rw [hk]
            simp
          | some x =>
            obtain ⟨k1, r9⟩ := x
            rw [ht] at hk
            simp only at hk ⊢
            rw [hk]
            simp
theorem name_zz (z : List UInt8) : nameL (122 :: 122 :: 62 :: z) = some ([122, 122], 62 :: z) :=
  name_local (l := [122, 122, 62]) (n := [122, 122]) (r := []) (c := 62) (by kernel_rfl) (by decide) z
/-- P8.1, in another element. -/
theorem zz_doc {s : List UInt8} {ks : List PT} {q : List UInt8} (h : docF (linesF s) = .ok (.mk 1 [] [] [] ks) q) : docF (linesF ([60, 122, 122, 62] ++ s ++ [60, 47, 122, 122, 62])) = .nest ∨ ∃ a t b ks1 ks2, ks = a ++ [t] ++ b ∧ (∀ x ∈ a, x.k = 5) ∧ (∀ x ∈ b, x.k = 5) ∧ t.k = 2 ∧ (∀ x ∈ ks1, x.k ≠ 2) ∧ (∀ x ∈ ks2, x.k ≠ 2) ∧ docF (linesF ([60, 122, 122, 62] ++ s ++ [60, 47, 122, 122, 62])) = .ok (.mk 1 [] [] [] [.mk 2 [122, 122] [] [] (ks1 ++ [t] ++ ks2)]) [] := by
  rw [lines_lf] at h ⊢
  obtain ⟨l, hl⟩ : ∃ l, lf s = l := ⟨_, rfl⟩
  have e1 : lf ([60, 122, 122, 62] ++ s ++ [60, 47, 122, 122, 62]) = 60 :: 122 :: 122 :: 62 :: (l ++ [60, 47, 122, 122, 62]) := by
    rw [List.append_assoc, lf_plain [60, 122, 122, 62] _ (by decide), lf_behind s 60 [47, 122, 122, 62] (by decide) (by decide), hl]
    rfl
  rw [hl] at h
  obtain ⟨a, r, t, r2, b, o1, o2, o3, hT, _, ha, hb, ht⟩ := doc_parts h
  have hks : ks = a ++ [t] ++ b := by injection hT
  obtain ⟨b0, c0, er, hb0, hb47, _, hel⟩ := (ek_local _).1 _ _ _ _ o2
  obtain ⟨c1, ks1, st1, ec1, hst1, hk1, hc1⟩ := misc_in _ _ _ _ _ o1
  obtain ⟨c2, ks2, st2, ec2, hst2, hk2, hc2⟩ := misc_in _ _ _ _ _ o3
  rw [List.append_nil] at ec2
  obtain ⟨Y, hY⟩ : ∃ Y : List UInt8, [60, 47, 122, 122, 62] = Y := ⟨_, rfl⟩
  have hYl : Y.length = 5 := by rw [← hY]; rfl
  have hYs : Stop Y := by rw [← hY]; exact stop_other _ (by decide)
  have hYp : Lib.hasPrefix Y [60, 47] = true := by rw [← hY]; exact has_app [60, 47] _
  have len1 : l.length = c1.length + r.length := by rw [ec1, List.length_append]
  have len2 : r.length = c0.length + 2 + r2.length := by rw [er]; simp only [List.length_append, List.length_cons]
  have len3 : r2.length = c2.length := by rw [← ec2]
  obtain ⟨F, hF⟩ : ∃ F, 2 * (60 :: 122 :: 122 :: 62 :: (l ++ Y)).length + 2 = F + 1 := ⟨_, rfl⟩
  have hFl : F = 2 * l.length + 19 := by
    simp only [List.length_cons, List.length_append] at hF
    omega
  -- what stands in it
  have hcon : contentGo F 1 (l ++ Y) [] = .nest ∨ contentGo F 1 (l ++ Y) [] = .ok (ks1 ++ [t] ++ ks2) Y := by
    have g1 := hc1 (F - st1) 1 [] (r ++ Y) (by rw [er]; exact stop_other _ hb0)
    rw [show F - st1 + st1 = F by omega, ← List.append_assoc, ← ec1, List.nil_append] at g1
    rw [g1]
    obtain ⟨g, hg⟩ : ∃ g, F - st1 = g + 1 := ⟨F - st1 - 1, by omega⟩
    rw [hg]
    have er' : r ++ Y = 60 :: b0 :: c0 ++ (r2 ++ Y) := by rw [er, List.append_assoc]
    have e0 : 60 :: b0 :: c0 ++ (r2 ++ Y) = 60 :: b0 :: (c0 ++ (r2 ++ Y)) := rfl
    rw [er', kidsGo, if_neg (by rw [e0, has_no2 _ _ (Ne.symm hb47)]; decide), e0, strip_no2 _ _ (Ne.symm hb0), ← e0]
    simp only
    rcases hel g 1 (r2 ++ Y) (by omega) (by omega) with hk | ⟨_, hk⟩
    · rw [hk]
      simp only
      have g2 := hc2 (g - st2) 1 (ks1 ++ [t]) Y hYs
      rw [show g - st2 + st2 = g by omega, ← ec2] at g2
      obtain ⟨g3, hg3⟩ : ∃ g3, g - st2 = g3 + 1 := ⟨g - st2 - 1, by omega⟩
      rw [hg3, kidsGo, if_pos hYp] at g2
      unfold contentGo at g2
      cases ht2 : textL (r2 ++ Y) with
      | none => rw [ht2] at g2; cases g2
      | some x =>
        obtain ⟨k9, r9⟩ := x
        rw [ht2] at g2
        exact .inr g2
    · rw [hk]
      exact .inl rfl
  have p1 : outL (60 :: 122 :: 122 :: 62 :: (l ++ Y)) = some ([], 60 :: 122 :: 122 :: 62 :: (l ++ Y)) := by
    unfold outL
    rw [outGo, trim_own _ (by decide), strip_no2 _ _ (by decide)]
  have p2 : elemGo (F + 1) 0 (60 :: 122 :: 122 :: 62 :: (l ++ Y)) = .nest ∨ elemGo (F + 1) 0 (60 :: 122 :: 122 :: 62 :: (l ++ Y)) = .ok (.mk 2 [122, 122] [] [] (ks1 ++ [t] ++ ks2)) [] := by
    rw [elemGo, strip1]
    simp only
    rw [name_zz]
    simp only
    rw [if_neg (by decide), attrs_gt]
    simp only
    rw [strip_no [62] _ (show (47 : UInt8) ≠ 62 by decide)]
    simp only
    rw [strip1]
    simp only
    unfold contentGo at hcon
    cases ht2 : textL (l ++ Y) with
    | none =>
      rw [ht2] at hcon
      rcases hcon with h | h <;> cases h
    | some x =>
      obtain ⟨k9, r9⟩ := x
      rw [ht2] at hcon
      simp only [List.nil_append] at hcon ⊢
      rcases hcon with hk | hk
      · rw [hk]
        exact .inl rfl
      · rw [hk, ← hY]
        exact .inr rfl
  rw [hY] at e1 ⊢
  unfold docF
  rw [e1, p1]
  simp only
  rw [hF]
  rcases p2 with p2 | p2
  · rw [p2]
    exact .inl rfl
  · rw [p2]
    right
    refine ⟨a, t, b, ks1, ks2, hks, ha, hb, ht, hk1, hk2, ?_⟩
    simp only
    rw [show outL [] = some ([], []) from by unfold outL; rw [outGo]; rfl]
    simp
end Go.Proofs.YtpdaldpaceolnaaGreatDoor
