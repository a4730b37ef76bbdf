/- Plain facts: fields joined by a blank are the text with its rows of spaces made one blank. No condition beyond what the theorems state. -/
import Derived.Test.YtklkodifbdpihaaDoorMathT
import Derived.Test.YtklkodifbdpihaaDoorNormRef
import Derived.Test.YtklkodifbdpihaaDoorAllPure
import Derived.Lib.Join
namespace Go.Proofs.YtklkodifbdpihaaDoor
open Go.RowKit Go.Lib
def nz : Bool → Bool → List UInt8 → List UInt8
  | _, _, [] => []
  | any, op, b :: t => if spN b = true then nz any false t else (if op = false ∧ any = true then [32] else []) ++ b :: nz true true t
theorem nz_spaces : ∀ (q : List UInt8) (any op : Bool), (∀ x ∈ q, spN x = true) → nz any op q = []
  | [], _, _, _ => rfl
  | x :: q, any, op, h => by rw [nz, if_pos (h x (by simp))]; exact nz_spaces q any false fun y hy => h y (by simp [hy])
theorem nz_tail : ∀ (m q : List UInt8) (any op : Bool), (∀ x ∈ q, spN x = true) → nz any op (m ++ q) = nz any op m
  | [], q, any, op, h => by rw [List.nil_append, nz_spaces q any op h]; rfl
  | x :: m, q, any, op, h => by
    rw [List.cons_append, nz, nz, nz_tail m q any false h, nz_tail m q true true h]
theorem nz_head : ∀ (p m : List UInt8), (∀ x ∈ p, spN x = true) → nz false false (p ++ m) = nz false false m
  | [], m, _ => rfl
  | x :: p, m, h => by rw [List.cons_append, nz, if_pos (h x (by simp))]; exact nz_head p m fun y hy => h y (by simp [hy])
def lastOk (t : List UInt8) : Prop := ∀ (h : t ≠ []), spN (t.getLast h) = false
theorem lastOk_tail {b : UInt8} {t : List UInt8} (h : lastOk (b :: t)) : lastOk t := by
  intro ht
  have := h (by simp)
  rwa [List.getLast_cons ht] at this
theorem nz_col : ∀ (t : List UInt8), lastOk t → nz true true t = colGo false t ∧ (t ≠ [] → nz true false t = 32 :: colGo true t)
  | [], _ => ⟨rfl, fun h => absurd rfl h⟩
  | b :: t, h => by
    obtain ⟨ihA, ihB⟩ := nz_col t (lastOk_tail h)
    cases hb : spN b
    · constructor
      · rw [nz, colGo, hb]; simp [ihA]
      · intro _
        rw [nz, colGo, hb]; simp [ihA]
    · have hne : t ≠ [] := by
        rintro rfl
        have := h (by simp)
        simp [hb] at this
      constructor
      · rw [nz, colGo, hb]; simp [ihB hne]
      · intro _
        rw [nz, colGo, hb]; simp [ihB hne]
theorem takeWhile_all (l : List UInt8) : ∀ x ∈ l.takeWhile spN, spN x = true := by
  intro x hx
  have := List.all_takeWhile (p := spN) (l := l)
  exact List.all_eq_true.1 this x hx
theorem trim_parts (l : List UInt8) : ∃ p q, l = p ++ trimB l ++ q ∧ (∀ x ∈ p, spN x = true) ∧ (∀ x ∈ q, spN x = true) := by
  refine ⟨l.takeWhile spN, ((l.dropWhile spN).reverse.takeWhile spN).reverse, ?_, takeWhile_all l, ?_⟩
  · unfold trimB
    rw [List.append_assoc, ← List.reverse_append, List.takeWhile_append_dropWhile, List.reverse_reverse, List.takeWhile_append_dropWhile]
  · intro x hx
    exact takeWhile_all _ x (List.mem_reverse.1 hx)
theorem trim_last (l : List UInt8) : lastOk (trimB l) := by
  intro h
  unfold trimB at h ⊢
  obtain ⟨b, hb⟩ : ∃ b, (l.dropWhile spN).reverse.dropWhile spN = b := ⟨_, rfl⟩
  have hne : (l.dropWhile spN).reverse.dropWhile spN ≠ [] := by intro e; rw [e] at h; simp at h
  have := List.head_dropWhile_not spN (l := (l.dropWhile spN).reverse) hne
  simp only [List.getLast_reverse]
  simpa using this
theorem nz_norm (l : List UInt8) : nz false false l = normB l := by
  obtain ⟨p, q, e, hp, hq⟩ := trim_parts l
  unfold normB
  conv => lhs; rw [e]
  rw [nz_tail _ _ _ _ hq, nz_head _ _ hp]
  have hl := trim_last l
  have hh := trimB_ends l
  cases hm : trimB l with
  | nil => rfl
  | cons b t =>
    rw [hm] at hl hh
    have hb : spN b = false := by rcases hh with h | h; cases h; simpa using h
    rw [nz, colGo, hb]
    simp [(nz_col t (lastOk_tail hl)).1]
theorem nz_take (any op : Bool) (c t : List UInt8) (hc : c ≠ []) (h : ∀ x ∈ c, spN x = false) : nz any op (c ++ t) = (if op = false ∧ any = true then [32] else []) ++ c ++ nz true true t := by
  have go : ∀ (c : List UInt8), (∀ x ∈ c, spN x = false) → nz true true (c ++ t) = c ++ nz true true t := by
    intro c
    induction c with
    | nil => intro _; rfl
    | cons x c ih =>
      intro h
      rw [List.cons_append, nz, h x (by simp)]
      simp [ih (fun y hy => h y (by simp [hy]))]
  cases c with
  | nil => exact absurd rfl hc
  | cons x c =>
    rw [List.cons_append, nz, h x (by simp)]
    simp only [Bool.false_eq_true, if_false]
    rw [go c (fun y hy => h y (by simp [hy]))]
    simp

def jn (xs : List (List UInt8)) : List UInt8 := Lib.join xs [32]
theorem jn_snoc (xs : List (List UInt8)) (x : List UInt8) : jn (xs ++ [x]) = if xs = [] then x else jn xs ++ 32 :: x := by
  unfold jn
  cases xs with
  | nil => simp [Lib.join_one]
  | cons y r =>
    rw [List.cons_append, Lib.join_cons, Lib.join_cons]
    simp [Lib.joinTail]
def pieces (l : List UInt8) (acc : List (Nat × Nat)) : List (List UInt8) := acc.map fun x => (l.take x.2).drop x.1
def curOf (l : List UInt8) (pos : Nat) (st : Option Nat) (acc : List (Nat × Nat)) : List UInt8 :=
  match st with
  | none => jn (pieces l acc)
  | some a => jn (pieces l acc ++ [(l.take pos).drop a])
def anyOf (st : Option Nat) (acc : List (Nat × Nat)) : Bool := st.isSome || !acc.isEmpty
theorem rune_bytes (l : List UInt8) (_hne : l ≠ []) (h : spN (l.getD 0 0) = false) : ∀ x ∈ l.take (decodeL l).2, spN x = false := by
  intro x hx
  obtain ⟨k, hk, hkl, rfl⟩ := mem_take_get hx
  rw [decodeL_N] at hk
  by_cases hlow : (l.getD 0 0).toNat < 128
  · rw [decodeN_ascii _ _ _ _ _ hlow] at hk
    simp only at hk
    rw [show k = 0 from by omega]; exact h
  · by_cases k0 : k = 0
    · subst k0; exact h
    · rcases decodeN_shape l.length (l.getD 0 0).toNat (l.getD 1 0).toNat (l.getD 2 0).toNat (l.getD 3 0).toNat with ⟨c, e⟩ | ⟨a1, a2, a3, cv, e⟩ | ⟨a1, a2, a3, a4, cv, cs, e⟩ | ⟨a1, a2, a3, a4, a5, cv, cw, e⟩ | e
      · omega
      · rw [e] at hk; simp only at hk
        rw [show k = 1 from by omega]; exact spN_high (by omega)
      · rw [e] at hk; simp only at hk
        rcases (by omega : k = 1 ∨ k = 2) with rfl | rfl <;> exact spN_high (by omega)
      · rw [e] at hk; simp only at hk
        rcases (by omega : k = 1 ∨ k = 2 ∨ k = 3) with rfl | rfl | rfl <;> exact spN_high (by omega)
      · rw [e] at hk; simp only at hk
        omega
theorem take_more (l : List UInt8) (pos a K : Nat) (ha : a ≤ pos) (hk : pos + K ≤ l.length) : (l.take (pos + K)).drop a = (l.take pos).drop a ++ (l.drop pos).take K := by
  rw [List.take_add, List.drop_append_of_le_length (by rw [List.length_take]; omega)]
theorem spans_nz (s : ByteArray) : ∀ (f pos : Nat) (st : Option Nat) (acc : List (Nat × Nat)), s.size ≤ pos + f → pos ≤ s.size → (∀ a, st = some a → a < pos) →
    jn (pieces s.data.toList (closeSpans s (spansFromP spR s f pos st acc))) = curOf s.data.toList pos st acc ++ nz (anyOf st acc) st.isSome (s.data.toList.drop pos)
  | 0, pos, st, acc, h, hp, hst => by
    have : pos = s.size := by omega
    subst this
    rw [List.drop_eq_nil_of_le (by simp)]
    unfold spansFromP closeSpans
    cases st with
    | none => simp [curOf, nz]
    | some a => simp [curOf, nz, pieces]
  | f + 1, pos, st, acc, h, hp, hst => by
    have hsz : s.data.toList.length = s.size := by simp
    by_cases hlt : pos < s.size
    · have hl : pos < s.data.toList.length := by omega
      have hd := dec_space (s.data.toList.drop pos)
      have hne := drop_ne s.data.toList pos hl
      have hle := decodeL_le _ hne
      have hw := decodeL_width (s.data.toList.drop pos)
      have hby := rune_bytes _ hne
      rw [List.length_drop] at hle
      rw [decodeL_drop] at hd hle hw hby
      rw [getD_drop, Nat.add_zero] at hd hby
      unfold spansFromP
      rw [if_pos hlt]
      cases hb : spN (s.data.toList.getD pos 0)
      · rw [hd.1, hb]
        simp only [Bool.false_eq_true, if_false]
        have hcut : s.data.toList.drop pos = (s.data.toList.drop pos).take (Utf8.decode s pos).2 ++ s.data.toList.drop (pos + (Utf8.decode s pos).2) := by rw [← List.drop_drop, List.take_append_drop]
        have hcne : (s.data.toList.drop pos).take (Utf8.decode s pos).2 ≠ [] := take_ne _ _ (by omega) (by rw [List.length_drop]; omega)
        cases st with
        | none =>
          simp only
          rw [spans_nz s f (pos + (Utf8.decode s pos).2) (some pos) acc (by omega) (by omega) (fun a e => by cases e; omega)]
          conv => rhs; rw [hcut, nz_take _ _ _ _ hcne (hby hb)]
          simp only [curOf, anyOf, Option.isSome_some, Option.isSome_none, Bool.true_or, Bool.false_or]
          rw [take_more _ pos pos _ (Nat.le_refl _) (by omega), jn_snoc]
          have : (s.data.toList.take pos).drop pos = [] := List.drop_eq_nil_of_le (by rw [List.length_take]; omega)
          rw [this, List.nil_append]
          cases acc with
          | nil => simp [pieces, jn, Lib.join_nil]
          | cons x r => simp [pieces]
        | some a =>
          simp only
          have ha := hst a rfl
          rw [spans_nz s f (pos + (Utf8.decode s pos).2) (some a) acc (by omega) (by omega) (fun b e => by cases e; omega)]
          conv => rhs; rw [hcut, nz_take _ _ _ _ hcne (hby hb)]
          simp only [curOf, anyOf, Option.isSome_some, Bool.true_or]
          rw [take_more _ pos a _ (by omega) (by omega), jn_snoc, jn_snoc]
          cases acc with
          | nil => simp [pieces]
          | cons x r => simp [pieces]
      · rw [hd.1, hb, hd.2 hb]
        simp only [if_true]
        have hdr : nz (anyOf st acc) st.isSome (s.data.toList.drop pos) = nz (anyOf st acc) false (s.data.toList.drop (pos + 1)) := by
          rw [List.drop_eq_getElem_cons hl, nz, if_pos (by rw [List.getD_eq_getElem?_getD, List.getElem?_eq_getElem hl] at hb; exact hb)]
        rw [hdr]
        cases st with
        | none =>
          simp only
          rw [spans_nz s f (pos + 1) none acc (by omega) (by omega) (fun a e => by cases e)]
          simp [curOf]
        | some a =>
          simp only
          rw [spans_nz s f (pos + 1) none (acc ++ [(a, pos)]) (by omega) (by omega) (fun a e => by cases e)]
          cases acc <;> simp [curOf, anyOf, pieces]
    · have : pos = s.size := by omega
      subst this
      rw [spansFromP_end _ _ _ _ _ _ hlt, List.drop_eq_nil_of_le (by simp)]
      unfold closeSpans
      cases st with
      | none => simp [curOf, nz]
      | some a => simp [curOf, nz, pieces]
theorem fields_norm (s : ByteArray) : Lib.join ((goFieldsP spR s).map (·.data.toList)) [32] = normB s.data.toList := by
  have h := spans_nz s s.size 0 none [] (by omega) (by omega) (fun a e => by cases e)
  rw [← nz_norm]
  have e : (goFieldsP spR s).map (·.data.toList) = pieces s.data.toList (closeSpans s (spansFromP spR s s.size 0 none [])) := by
    unfold goFieldsP spansOfP pieces
    rw [List.map_map]
    apply List.map_congr_left
    intro x _
    exact extract_list s x.1 x.2
  rw [e]
  simpa [curOf, anyOf, pieces, jn, Lib.join_nil] using h
end Go.Proofs.YtklkodifbdpihaaDoor
