/- Trees and the cells they lie in. No condition beyond what the theorems state. -/
import Derived.Test.YtpdaldpaceolnaaGreatDoorWords
import Derived.Deep.DeepMust
import Derived.Test.YtpdaldpaceolnaaGreatDoorValid
namespace Go.Proofs.YtpdaldpaceolnaaGreatDoor
open Go.RowKit Go.Lib
/-- A tree, plain. -/
inductive PT where
  | mk (k : Int) (n v : List UInt8) (ps : List (List UInt8 × List UInt8)) (ks : List PT)
/-- A tree, and where its rows lie. -/
inductive Tr where
  | mk (k : Int) (n v : List UInt8) (A : Option Addr) (ac : Nat) (ps : List (List UInt8 × List UInt8)) (K : Option Addr) (kc : Nat) (ks : List Tr)
def Tr.cells : Tr → List Value
  | .mk k n v A ac ps K kc ks => [.int .i64 k, .string (ba' n), .string (ba' v), .slice A ps.length ac, .slice K ks.length kc]
def Tr.v : Tr → Value
  | .mk k n v A ac ps K kc ks => .agg #[.int .i64 k, .string (ba' n), .string (ba' v), .slice A ps.length ac, .slice K ks.length kc]
def rowT (L : List Tr) : List Value := L.flatMap Tr.cells
def rowP (L : List (List UInt8 × List UInt8)) : List Value := L.flatMap fun p => [.string (ba' p.1), .string (ba' p.2)]
/-- A row of cells in one of the blocks that P tells. -/
def RdP (P : Nat → Prop) (w : World) (size : Nat) (A : Option Addr) (n : Nat) (xs : List Value) : Prop :=
  xs.length = n * size ∧ (0 < n → ∃ ad, A = some ad ∧ P ad.block ∧ ∀ j u, xs[j]? = some u → w.cell? (ad.add j) = some u)
theorem RdP.keep {P Q : Nat → Prop} {w w' : World} {size n : Nat} {A : Option Addr} {xs : List Value} (h : RdP P w size A n xs) (hq : ∀ b, P b → Q b) (hk : ∀ p : Addr, P p.block → w'.cell? p = w.cell? p) : RdP Q w' size A n xs :=
  ⟨h.1, fun hn => by
    obtain ⟨ad, e, hb, hc⟩ := h.2 hn
    exact ⟨ad, e, hq _ hb, fun j u hu => (hk _ (by rw [block_of_add]; exact hb)).trans (hc j u hu)⟩⟩
mutual
def Tr.In (P : Nat → Prop) (w : World) : Tr → Prop
  | .mk _ _ _ A _ ps K _ ks => RdP P w 2 A ps.length (rowP ps) ∧ RdP P w 5 K ks.length (rowT ks) ∧ InL P w ks
def InL (P : Nat → Prop) (w : World) : List Tr → Prop
  | [] => True
  | t :: ts => t.In P w ∧ InL P w ts
end
mutual
def Tr.pl : Tr → PT
  | .mk k n v _ _ ps _ _ ks => .mk k n v ps (plL ks)
def plL : List Tr → List PT
  | [] => []
  | t :: ts => t.pl :: plL ts
end
theorem plL_map : ∀ L : List Tr, plL L = L.map Tr.pl
  | [] => rfl
  | t :: ts => by rw [plL, plL_map ts]; rfl
theorem inL_iff {P : Nat → Prop} {w : World} : ∀ {L : List Tr}, InL P w L ↔ ∀ t ∈ L, t.In P w
  | [] => by simp [InL]
  | t :: ts => by rw [InL, inL_iff (L := ts)]; simp
theorem PT.ind {M : PT → Prop} (h : ∀ k n v ps ks, (∀ t ∈ ks, M t) → M (.mk k n v ps ks)) : ∀ t, M t := fun t =>
  PT.rec (motive_1 := M) (motive_2 := fun L => ∀ t ∈ L, M t) (fun k n v ps ks ih => h k n v ps ks ih) (fun t ht => nomatch ht)
    (fun a L ha hL t ht => by
      rcases List.mem_cons.1 ht with rfl | ht
      · exact ha
      · exact hL t ht) t
theorem Tr.ind {M : Tr → Prop} (h : ∀ k n v A ac ps K kc ks, (∀ t ∈ ks, M t) → M (.mk k n v A ac ps K kc ks)) : ∀ t, M t := fun t =>
  Tr.rec (motive_1 := M) (motive_2 := fun L => ∀ t ∈ L, M t) (fun k n v A ac ps K kc ks ih => h k n v A ac ps K kc ks ih) (fun t ht => nomatch ht)
    (fun a L ha hL t ht => by
      rcases List.mem_cons.1 ht with rfl | ht
      · exact ha
      · exact hL t ht) t
theorem Tr.In.keep {P Q : Nat → Prop} {w w' : World} (hq : ∀ b, P b → Q b) (hk : ∀ p : Addr, P p.block → w'.cell? p = w.cell? p) : ∀ {t : Tr}, t.In P w → t.In Q w' := by
  intro t
  induction t using Tr.ind with
  | h k n v A ac ps K kc ks ih =>
    intro h
    rw [Tr.In] at h ⊢
    exact ⟨h.1.keep hq hk, h.2.1.keep hq hk, inL_iff.2 fun t ht => ih t ht (inL_iff.1 h.2.2 t ht)⟩
theorem rowT_len (L : List Tr) : (rowT L).length = L.length * 5 := by
  induction L with
  | nil => rfl
  | cons a L ih =>
    have e : rowT (a :: L) = a.cells ++ rowT L := rfl
    have e5 : a.cells.length = 5 := by cases a; rfl
    rw [e, List.length_append, ih, e5, List.length_cons]
    omega
theorem rowP_len (L : List (List UInt8 × List UInt8)) : (rowP L).length = L.length * 2 := by
  induction L with
  | nil => rfl
  | cons a L ih =>
    have e : rowP (a :: L) = [.string (ba' a.1), .string (ba' a.2)] ++ rowP L := rfl
    rw [e, List.length_append, ih]
    simp only [List.length_cons, List.length_nil]
    omega
theorem rowT_at : ∀ (L : List Tr) (i : Nat) (t : Tr) (o : Nat) (u : Value), L[i]? = some t → t.cells[o]? = some u → o < 5 → (rowT L)[i * 5 + o]? = some u
  | [], i, r, o, u, h, _, _ => by simp at h
  | a :: L, 0, r, o, u, h, hu, ho => by
    have e : rowT (a :: L) = a.cells ++ rowT L := rfl
    have hl : a.cells.length = 5 := by cases a; rfl
    simp at h; subst h
    rw [e, Nat.zero_mul, Nat.zero_add, List.getElem?_append_left (by omega)]
    exact hu
  | a :: L, i + 1, r, o, u, h, hu, ho => by
    have h' : L[i]? = some r := by simpa using h
    have e : rowT (a :: L) = a.cells ++ rowT L := rfl
    have hl : a.cells.length = 5 := by cases a; rfl
    rw [e, List.getElem?_append_right (by rw [hl]; omega), hl, show (i + 1) * 5 + o - 5 = i * 5 + o by omega]
    exact rowT_at L i r o u h' hu ho
theorem rowP_at : ∀ (L : List (List UInt8 × List UInt8)) (i : Nat) (p : List UInt8 × List UInt8), L[i]? = some p → (rowP L)[i * 2]? = some (.string (ba' p.1)) ∧ (rowP L)[i * 2 + 1]? = some (.string (ba' p.2))
  | [], i, r, h => by simp at h
  | a :: L, 0, r, h => by
    simp at h; subst h
    exact ⟨rfl, rfl⟩
  | a :: L, i + 1, r, h => by
    have h' : L[i]? = some r := by simpa using h
    have e : rowP (a :: L) = [.string (ba' a.1), .string (ba' a.2)] ++ rowP L := rfl
    have hl : ([.string (ba' a.1), .string (ba' a.2)] : List Value).length = 2 := rfl
    constructor
    · rw [e, List.getElem?_append_right (by rw [hl]; omega), hl, show (i + 1) * 2 - 2 = i * 2 by omega]
      exact (rowP_at L i r h').1
    · rw [e, List.getElem?_append_right (by rw [hl]; omega), hl, show (i + 1) * 2 + 1 - 2 = i * 2 + 1 by omega]
      exact (rowP_at L i r h').2
/- how great a tree is -/
mutual
def PT.size : PT → Nat
  | .mk _ _ _ ps ks => 1 + ps.length + sizeL ks
def sizeL : List PT → Nat
  | [] => 0
  | t :: ts => t.size + sizeL ts
end
def bulkP : List (List UInt8 × List UInt8) → Nat
  | [] => 0
  | p :: ps => 1 + p.1.length + p.2.length + bulkP ps
mutual
def PT.bulk : PT → Nat
  | .mk _ n v ps ks => 1 + n.length + v.length + bulkP ps + bulkL ks
def bulkL : List PT → Nat
  | [] => 0
  | t :: ts => t.bulk + bulkL ts
end
theorem bulkP_len : ∀ ps : List (List UInt8 × List UInt8), ps.length ≤ bulkP ps
  | [] => Nat.zero_le _
  | p :: ps => by have := bulkP_len ps; rw [bulkP, List.length_cons]; omega
theorem bulkP_mem : ∀ (ps : List (List UInt8 × List UInt8)) (p : List UInt8 × List UInt8), p ∈ ps → p.1.length + p.2.length < bulkP ps
  | q :: ps, p, h => by
    rw [bulkP]
    rcases List.mem_cons.1 h with rfl | h
    · omega
    · have := bulkP_mem ps p h; omega
theorem bulkL_mem : ∀ (L : List PT) (t : PT), t ∈ L → t.bulk ≤ bulkL L
  | q :: L, t, h => by
    rw [bulkL]
    rcases List.mem_cons.1 h with rfl | h
    · omega
    · have := bulkL_mem L t h; omega
theorem bulk_pos : ∀ t : PT, 0 < t.bulk
  | .mk .. => by rw [PT.bulk]; omega
theorem bulkL_len : ∀ L : List PT, L.length ≤ bulkL L
  | [] => Nat.zero_le _
  | t :: L => by have := bulkL_len L; have := bulk_pos t; rw [bulkL, List.length_cons]; omega
theorem sizeL_bulk {L : List PT} (h : ∀ t ∈ L, t.size ≤ t.bulk) : sizeL L ≤ bulkL L := by
  induction L with
  | nil => exact Nat.le_refl _
  | cons a L ih =>
    rw [sizeL, bulkL]
    have h1 := h a (.head _)
    have h2 := ih fun t ht => h t (.tail _ ht)
    omega
theorem size_bulk : ∀ t : PT, t.size ≤ t.bulk := by
  intro t
  induction t using PT.ind with
  | h k n v ps ks ih =>
    rw [PT.size, PT.bulk]
    have h1 := bulkP_len ps
    have h2 := sizeL_bulk ih
    omega
theorem size_pos : ∀ t : PT, 0 < t.size
  | .mk .. => by rw [PT.size]; omega
theorem sizeL_mem : ∀ (L : List PT) (t : PT), t ∈ L → t.size ≤ sizeL L
  | q :: L, t, h => by
    rw [sizeL]
    rcases List.mem_cons.1 h with rfl | h
    · omega
    · have := sizeL_mem L t h; omega
theorem sizeL_app : ∀ (a b : List PT), sizeL (a ++ b) = sizeL a + sizeL b
  | [], b => by rw [sizeL]; simp
  | t :: a, b => by rw [List.cons_append, sizeL, sizeL, sizeL_app a b]; omega
end Go.Proofs.YtpdaldpaceolnaaGreatDoor
namespace Go.Proofs.YtpdaldpaceolnaaGreatDoor
open Go.RowKit Go.Lib
mutual
def PT.parts : PT → Int → Int
  | .mk _ _ _ ps ks, l => partsL ks (l - 1 - ps.length)
def partsL : List PT → Int → Int
  | [], l => l
  | t :: ts, l => if l < 0 then l else partsL ts (t.parts l)
end
theorem partsL_neg (L : List PT) {l : Int} (h : l < 0) : partsL L l = l := by
  cases L with
  | nil => rw [partsL]
  | cons a L => rw [partsL, if_pos h]
theorem parts_le : ∀ (t : PT) (l : Int), t.parts l ≤ l - 1 := by
  intro t
  induction t using PT.ind with
  | h k n v ps ks ih =>
    intro l
    have aux : ∀ (L : List PT), (∀ t ∈ L, ∀ l : Int, t.parts l ≤ l - 1) → ∀ l, partsL L l ≤ l := by
      intro L
      induction L with
      | nil => intro _ l; rw [partsL]; omega
      | cons a L ihL =>
        intro h l
        rw [partsL]
        split
        · omega
        · have h1 := h a (.head _) l
          have h2 := ihL (fun t ht => h t (.tail _ ht)) (a.parts l)
          omega
    rw [PT.parts]
    have := aux ks ih (l - 1 - ps.length)
    omega
theorem partsL_le (L : List PT) (l : Int) : partsL L l ≤ l := by
  induction L generalizing l with
  | nil => rw [partsL]; omega
  | cons a L ih =>
    rw [partsL]
    split
    · omega
    · have := parts_le a l; have := ih (a.parts l); omega
theorem parts_ge : ∀ (t : PT) (l : Int), l - t.size ≤ t.parts l := by
  intro t
  induction t using PT.ind with
  | h k n v ps ks ih =>
    intro l
    have aux : ∀ (L : List PT), (∀ t ∈ L, ∀ l : Int, l - t.size ≤ t.parts l) → ∀ l : Int, l - sizeL L ≤ partsL L l := by
      intro L
      induction L with
      | nil => intro _ l; rw [partsL, sizeL]; omega
      | cons a L ihL =>
        intro h l
        rw [partsL, sizeL]
        split
        · omega
        · have h1 := h a (.head _) l
          have h2 := ihL (fun t ht => h t (.tail _ ht)) (a.parts l)
          omega
    rw [PT.parts, PT.size]
    have := aux ks ih (l - 1 - ps.length)
    omega
theorem parts_few : ∀ (t : PT) (l : Int), (t.size : Int) ≤ l → t.parts l = l - t.size := by
  intro t
  induction t using PT.ind with
  | h k n v ps ks ih =>
    intro l hl
    have aux : ∀ (L : List PT), (∀ t ∈ L, ∀ l : Int, (t.size : Int) ≤ l → t.parts l = l - t.size) → ∀ l : Int, (sizeL L : Int) ≤ l → partsL L l = l - sizeL L := by
      intro L
      induction L with
      | nil => intro _ l _; rw [partsL, sizeL]; omega
      | cons a L ihL =>
        intro h l hl
        rw [sizeL] at hl
        rw [partsL, sizeL, if_neg (by omega), h a (.head _) l (by omega), ihL (fun t ht => h t (.tail _ ht)) _ (by omega)]
        omega
    rw [PT.size] at hl
    rw [PT.parts, PT.size, aux ks ih _ (by omega)]
    omega
theorem parts_many : ∀ (t : PT) (l : Int), l < t.size → t.parts l < 0 := by
  intro t
  induction t using PT.ind with
  | h k n v ps ks ih =>
    intro l hl
    have aux : ∀ (L : List PT), (∀ t ∈ L, ∀ l : Int, l < t.size → t.parts l < 0) → ∀ l : Int, l < sizeL L → partsL L l < 0 := by
      intro L
      induction L with
      | nil => intro _ l hl; rw [sizeL] at hl; rw [partsL]; omega
      | cons a L ihL =>
        intro h l hl
        rw [sizeL] at hl
        rw [partsL]
        split
        · omega
        · by_cases hs : l < a.size
          · have := h a (.head _) l hs
            rw [partsL_neg _ this]; exact this
          · rw [parts_few a l (by omega)]
            exact ihL (fun t ht => h t (.tail _ ht)) _ (by omega)
    rw [PT.size] at hl
    rw [PT.parts]
    exact aux ks ih _ (by omega)
/-- A tree is within so many nodes. -/
theorem few_iff (t : PT) (m : Nat) : 0 ≤ t.parts m ↔ t.size ≤ m := by
  constructor
  · intro h
    rcases Nat.lt_or_ge m t.size with h1 | h1
    · have := parts_many t m (by omega); omega
    · exact h1
  · intro h
    rw [parts_few t m (by omega)]; omega
end Go.Proofs.YtpdaldpaceolnaaGreatDoor
namespace Go.Proofs.YtpdaldpaceolnaaGreatDoor
open Go.RowKit Go.Lib
/-- A node of a store. -/
structure En where
  k : Int
  n : List UInt8
  v : List UInt8
  p : Nat
  e : Nat
def En.cells (x : En) : List Value := [.int .i64 x.k, .string (ba' x.n), .string (ba' x.v), .int .i64 (x.p : Int), .int .i64 (x.e : Int)]
def En.val (x : En) : Value := .agg #[.int .i64 x.k, .string (ba' x.n), .string (ba' x.v), .int .i64 (x.p : Int), .int .i64 (x.e : Int)]
def rowE (L : List En) : List Value := L.flatMap En.cells
theorem rowE_len (L : List En) : (rowE L).length = L.length * 5 := by
  induction L with
  | nil => rfl
  | cons a L ih =>
    have e : rowE (a :: L) = a.cells ++ rowE L := rfl
    rw [e, List.length_append, ih, List.length_cons]
    show 5 + _ = _
    omega
theorem rowE_app (a b : List En) : rowE (a ++ b) = rowE a ++ rowE b := by unfold rowE; exact List.flatMap_append
theorem rowE_at : ∀ (L : List En) (i : Nat) (x : En) (o : Nat) (u : Value), L[i]? = some x → x.cells[o]? = some u → o < 5 → (rowE L)[i * 5 + o]? = some u
  | [], i, r, o, u, h, _, _ => by simp at h
  | a :: L, 0, r, o, u, h, hu, ho => by
    have e : rowE (a :: L) = a.cells ++ rowE L := rfl
    have hl : a.cells.length = 5 := rfl
    simp at h; subst h
    rw [e, Nat.zero_mul, Nat.zero_add, List.getElem?_append_left (by omega)]
    exact hu
  | a :: L, i + 1, r, o, u, h, hu, ho => by
    have h' : L[i]? = some r := by simpa using h
    have e : rowE (a :: L) = a.cells ++ rowE L := rfl
    have hl : a.cells.length = 5 := rfl
    rw [e, List.getElem?_append_right (by rw [hl]; omega), hl, show (i + 1) * 5 + o - 5 = i * 5 + o by omega]
    exact rowE_at L i r o u h' hu ho
theorem rowE_one (L : List En) : ∀ u ∈ rowE L, u.oneCell' = true := by
  intro u hu
  unfold rowE at hu
  rw [List.mem_flatMap] at hu
  obtain ⟨p, _, hp⟩ := hu
  unfold En.cells at hp
  simp at hp
  rcases hp with rfl | rfl | rfl | rfl | rfl <;> rfl
/-- The end of one node told anew. -/
theorem rowE_set : ∀ (a : List En) (x : En) (b : List En) (e : Nat), (rowE (a ++ x :: b)).set (a.length * 5 + 4) (.int .i64 (e : Int)) = rowE (a ++ { x with e := e } :: b)
  | [], x, b, e => rfl
  | y :: a, x, b, e => by
    have h1 : rowE (y :: a ++ x :: b) = y.cells ++ rowE (a ++ x :: b) := rfl
    have h2 : rowE (y :: a ++ { x with e := e } :: b) = y.cells ++ rowE (a ++ { x with e := e } :: b) := rfl
    have hl : y.cells.length = 5 := rfl
    rw [h1, h2, ← rowE_set a x b e, List.length_cons, List.set_append_right _ _ (by rw [hl]; omega), hl, show (a.length + 1) * 5 + 4 - 5 = a.length * 5 + 4 by omega]
def layP : List (List UInt8 × List UInt8) → Nat → Nat → List En
  | [], _, _ => []
  | p :: ps, b, own => ⟨3, p.1, p.2, own, b + 1⟩ :: layP ps (b + 1) own
mutual
def PT.lay : PT → Nat → Nat → List En
  | .mk k n v ps ks, b, p => ⟨k, n, v, p, b + (1 + ps.length + sizeL ks)⟩ :: (layP ps (b + 1) (b + 1) ++ layL ks (b + 1 + ps.length) (b + 1))
def layL : List PT → Nat → Nat → List En
  | [], _, _ => []
  | t :: ts, b, p => t.lay b p ++ layL ts (b + t.size) p
end
theorem layP_len : ∀ (ps : List (List UInt8 × List UInt8)) (b own : Nat), (layP ps b own).length = ps.length
  | [], _, _ => rfl
  | p :: ps, b, own => by rw [layP, List.length_cons, layP_len ps, List.length_cons]
theorem lay_len : ∀ (t : PT) (b p : Nat), (t.lay b p).length = t.size := by
  intro t
  induction t using PT.ind with
  | h k n v ps ks ih =>
    intro b p
    have aux : ∀ (L : List PT), (∀ t ∈ L, ∀ b p : Nat, (t.lay b p).length = t.size) → ∀ b p : Nat, (layL L b p).length = sizeL L := by
      intro L
      induction L with
      | nil => intro _ b p; rw [layL, sizeL]; rfl
      | cons a L ihL =>
        intro h b p
        rw [layL, sizeL, List.length_append, h a (.head _), ihL (fun t ht => h t (.tail _ ht))]
    rw [PT.lay, PT.size, List.length_cons, List.length_append, layP_len, aux ks ih]
    omega
theorem layL_len (L : List PT) (b p : Nat) : (layL L b p).length = sizeL L := by
  induction L generalizing b with
  | nil => rw [layL, sizeL]; rfl
  | cons a L ih => rw [layL, sizeL, List.length_append, lay_len, ih]
theorem layP_app : ∀ (a c : List (List UInt8 × List UInt8)) (b own : Nat), layP (a ++ c) b own = layP a b own ++ layP c (b + a.length) own
  | [], c, b, own => rfl
  | p :: a, c, b, own => by
    rw [List.cons_append, layP, layP, layP_app a c, List.cons_append, List.length_cons, show b + 1 + a.length = b + (a.length + 1) by omega]
theorem layL_app : ∀ (a c : List PT) (b p : Nat), layL (a ++ c) b p = layL a b p ++ layL c (b + sizeL a) p
  | [], c, b, p => by rw [layL, sizeL]; rfl
  | t :: a, c, b, p => by
    rw [List.cons_append, layL, layL, layL_app a c, List.append_assoc, sizeL, show b + t.size + sizeL a = b + (t.size + sizeL a) by omega]
theorem layP_take (ps : List (List UInt8 × List UInt8)) (i : Nat) (q : List UInt8 × List UInt8) (h : ps[i]? = some q) (b own : Nat) :
    layP (ps.take (i + 1)) b own = layP (ps.take i) b own ++ [⟨3, q.1, q.2, own, b + i + 1⟩] := by
  have hl : i < ps.length := (List.getElem?_eq_some_iff.1 h).1
  rw [List.take_add_one, h, layP_app, List.length_take, Nat.min_eq_left (by omega)]
  rfl
theorem layL_take (ks : List PT) (i : Nat) (t : PT) (h : ks[i]? = some t) (b p : Nat) :
    layL (ks.take (i + 1)) b p = layL (ks.take i) b p ++ t.lay (b + sizeL (ks.take i)) p := by
  rw [List.take_add_one, h, layL_app]
  show _ ++ layL [t] _ _ = _
  rw [layL, layL, List.append_nil]
theorem sizeL_take (ks : List PT) (i : Nat) (t : PT) (h : ks[i]? = some t) : sizeL (ks.take (i + 1)) = sizeL (ks.take i) + t.size := by
  rw [List.take_add_one, h, sizeL_app]
  show _ + sizeL [t] = _
  rw [sizeL, sizeL]; omega
theorem sizeL_take_le (ks : List PT) (i : Nat) : sizeL (ks.take i) ≤ sizeL ks := by
  have := sizeL_app (ks.take i) (ks.drop i)
  rw [List.take_append_drop] at this
  omega
end Go.Proofs.YtpdaldpaceolnaaGreatDoor
namespace Go.Proofs.YtpdaldpaceolnaaGreatDoor
open Go.RowKit Go.Lib
theorem add_off (ad : Addr) (n o : Nat) (ho : 0 < o) : ({block := (ad.add n).block, off := (ad.add n).off + o} : Addr) = ad.add (n + o) := by
  have h0 : ¬ o = 0 := by omega
  unfold Addr.add
  by_cases h : n = 0
  · subst h; simp [h0]
  · simp [h, h0]; omega
theorem RdP.below {P : Nat → Prop} {w w' : World} {B size n : Nat} {A : Option Addr} {xs : List Value} (h : RdP P w size A n xs) (hP : ∀ b, P b → b < B) (hb : Below B w w') : RdP P w' size A n xs :=
  h.keep (fun _ h => h) (fun _p hp => hb.cell (hP _ hp))
theorem Tr.In.below {P : Nat → Prop} {w w' : World} {B : Nat} {t : Tr} (h : t.In P w) (hP : ∀ b, P b → b < B) (hb : Below B w w') : t.In P w' :=
  h.keep (fun _ h => h) (fun _p hp => hb.cell (hP _ hp))
theorem InL.below {P : Nat → Prop} {w w' : World} {B : Nat} {L : List Tr} (h : InL P w L) (hP : ∀ b, P b → b < B) (hb : Below B w w') : InL P w' L :=
  inL_iff.2 fun t ht => (inL_iff.1 h t ht).below hP hb
/-- One kid's five cells. -/
def KidAt (w : World) (ad : Addr) (i : Nat) (k : Int) (n v : List UInt8) (A : Option Addr) (na ac : Nat) (K : Option Addr) (nk kc : Nat) : Prop :=
  w.cell? (ad.add (i * 5)) = some (.int .i64 k) ∧ w.cell? {block := (ad.add (i * 5)).block, off := (ad.add (i * 5)).off + 1} = some (.string (ba' n)) ∧
  w.cell? {block := (ad.add (i * 5)).block, off := (ad.add (i * 5)).off + 2} = some (.string (ba' v)) ∧ w.cell? {block := (ad.add (i * 5)).block, off := (ad.add (i * 5)).off + 3} = some (.slice A na ac) ∧
  w.cell? {block := (ad.add (i * 5)).block, off := (ad.add (i * 5)).off + 4} = some (.slice K nk kc)
theorem kid_at {P : Nat → Prop} {w : World} {K : Option Addr} {m : Nat} {L : List Tr} (h : RdP P w 5 K m (rowT L)) {i : Nat} {k : Int} {n v : List UInt8} {A : Option Addr} {ac : Nat} {ps : List (List UInt8 × List UInt8)} {K' : Option Addr} {kc : Nat} {ks : List Tr}
    (hi : L[i]? = some (.mk k n v A ac ps K' kc ks)) (hm : i < m) : ∃ ad, K = some ad ∧ P ad.block ∧ KidAt w ad i k n v A ps.length ac K' ks.length kc := by
  obtain ⟨ad, e, hb, hc⟩ := h.2 (by omega)
  refine ⟨ad, e, hb, hc _ _ (rowT_at L i _ 0 _ hi rfl (by decide)), ?_, ?_, ?_, ?_⟩
  · rw [add_off _ _ _ (by decide)]; exact hc _ _ (rowT_at L i _ 1 _ hi rfl (by decide))
  · rw [add_off _ _ _ (by decide)]; exact hc _ _ (rowT_at L i _ 2 _ hi rfl (by decide))
  · rw [add_off _ _ _ (by decide)]; exact hc _ _ (rowT_at L i _ 3 _ hi rfl (by decide))
  · rw [add_off _ _ _ (by decide)]; exact hc _ _ (rowT_at L i _ 4 _ hi rfl (by decide))
theorem pair_at {P : Nat → Prop} {w : World} {A : Option Addr} {m : Nat} {L : List (List UInt8 × List UInt8)} (h : RdP P w 2 A m (rowP L)) {i : Nat} {p : List UInt8 × List UInt8}
    (hi : L[i]? = some p) (hm : i < m) : ∃ ad, A = some ad ∧ P ad.block ∧ w.cell? (ad.add (i * 2)) = some (.string (ba' p.1)) ∧ w.cell? {block := (ad.add (i * 2)).block, off := (ad.add (i * 2)).off + 1} = some (.string (ba' p.2)) := by
  obtain ⟨ad, e, hb, hc⟩ := h.2 (by omega)
  obtain ⟨h1, h2⟩ := rowP_at L i p hi
  refine ⟨ad, e, hb, hc _ _ h1, ?_⟩
  rw [add_off _ _ _ (by decide)]; exact hc _ _ h2
theorem drop_at {α : Type} {L : List α} {i : Nat} {t : α} (h : L[i]? = some t) : L.drop i = t :: L.drop (i + 1) := by
  obtain ⟨hl, he⟩ := List.getElem?_eq_some_iff.1 h
  rw [List.drop_eq_getElem_cons hl, he]
theorem plL_drop (L : List Tr) (i : Nat) : plL (L.drop i) = (plL L).drop i := by rw [plL_map, plL_map, List.map_drop]
theorem plL_len (L : List Tr) : (plL L).length = L.length := by rw [plL_map, List.length_map]
theorem plL_at {L : List Tr} {i : Nat} {t : Tr} (h : L[i]? = some t) : (plL L)[i]? = some t.pl := by rw [plL_map, List.getElem?_map, h]; rfl
theorem bulk_kid {k : Int} {n v : List UInt8} {A : Option Addr} {ac : Nat} {ps : List (List UInt8 × List UInt8)} {K : Option Addr} {kc : Nat} {ks : List Tr} {t : Tr} (h : t ∈ ks) : t.pl.bulk < (Tr.mk k n v A ac ps K kc ks).pl.bulk := by
  rw [Tr.pl, PT.bulk, plL_map]
  have := bulkL_mem (ks.map Tr.pl) t.pl (List.mem_map_of_mem h)
  omega
theorem bulk_fields (k : Int) (n v : List UInt8) (A : Option Addr) (ac : Nat) (ps : List (List UInt8 × List UInt8)) (K : Option Addr) (kc : Nat) (ks : List Tr) :
    n.length < (Tr.mk k n v A ac ps K kc ks).pl.bulk ∧ v.length < (Tr.mk k n v A ac ps K kc ks).pl.bulk ∧ ps.length < (Tr.mk k n v A ac ps K kc ks).pl.bulk ∧ ks.length < (Tr.mk k n v A ac ps K kc ks).pl.bulk := by
  rw [Tr.pl, PT.bulk]
  have h1 := bulkP_len ps
  have h2 := bulkL_len (plL ks)
  rw [plL_len] at h2
  omega
/- trees whose texts and rows a machine holds -/
mutual
def PT.lens : PT → Prop
  | .mk _ n v ps ks => n.length ≤ maxLen ∧ v.length ≤ maxLen ∧ ps.length ≤ maxLen ∧ ks.length ≤ maxLen ∧ (∀ p ∈ ps, p.1.length ≤ maxLen ∧ p.2.length ≤ maxLen) ∧ lensL ks
def lensL : List PT → Prop
  | [] => True
  | t :: ts => t.lens ∧ lensL ts
end
theorem lensL_iff : ∀ {L : List PT}, lensL L ↔ ∀ t ∈ L, t.lens
  | [] => by simp [lensL]
  | t :: ts => by rw [lensL, lensL_iff (L := ts)]; simp
/-- A tree of so many nodes, whose texts a machine holds. -/
def PT.fit (t : PT) : Prop := t.size ≤ 1048576 ∧ t.lens
theorem sizeL_len : ∀ L : List PT, L.length ≤ sizeL L
  | [] => Nat.zero_le _
  | t :: L => by have := sizeL_len L; have := size_pos t; rw [sizeL, List.length_cons]; omega
theorem lens_of_bulk : ∀ t : PT, t.bulk ≤ 1048576 → t.lens := by
  intro t
  induction t using PT.ind with
  | h k n v ps ks ih =>
    intro hb
    rw [PT.bulk] at hb
    have h1 := bulkP_len ps
    have h2 := bulkL_len ks
    rw [PT.lens]
    refine ⟨by unfold maxLen; omega, by unfold maxLen; omega, by unfold maxLen; omega, by unfold maxLen; omega, fun p hp => ?_, lensL_iff.2 fun t ht => ih t ht ?_⟩
    · have := bulkP_mem ps p hp
      unfold maxLen; omega
    · have := bulkL_mem ks t ht
      omega
theorem fit_of_bulk {t : PT} (h : t.bulk ≤ 1048576) : t.fit := ⟨Nat.le_trans (size_bulk t) h, lens_of_bulk t h⟩
theorem lens_kid {k : Int} {n v : List UInt8} {A : Option Addr} {ac : Nat} {ps : List (List UInt8 × List UInt8)} {K : Option Addr} {kc : Nat} {ks : List Tr} (h : (Tr.mk k n v A ac ps K kc ks).pl.lens) : ∀ t ∈ ks, t.pl.lens := by
  intro t ht
  rw [Tr.pl, PT.lens] at h
  exact lensL_iff.1 h.2.2.2.2.2 _ (by rw [plL_map]; exact List.mem_map_of_mem ht)
theorem fit_kid {k : Int} {n v : List UInt8} {A : Option Addr} {ac : Nat} {ps : List (List UInt8 × List UInt8)} {K : Option Addr} {kc : Nat} {ks : List Tr} (h : (Tr.mk k n v A ac ps K kc ks).pl.fit) : ∀ t ∈ ks, t.pl.fit := by
  intro t ht
  refine ⟨?_, lens_kid h.2 t ht⟩
  have h1 := h.1
  rw [Tr.pl, PT.size, plL_map] at h1
  have := sizeL_mem (ks.map Tr.pl) t.pl (List.mem_map_of_mem ht)
  omega
theorem fit_fields {k : Int} {n v : List UInt8} {A : Option Addr} {ac : Nat} {ps : List (List UInt8 × List UInt8)} {K : Option Addr} {kc : Nat} {ks : List Tr} (h : (Tr.mk k n v A ac ps K kc ks).pl.fit) :
    n.length ≤ maxLen ∧ v.length ≤ maxLen ∧ ps.length ≤ 1048576 ∧ ks.length ≤ 1048576 := by
  obtain ⟨h1, h2⟩ := h
  rw [Tr.pl, PT.size] at h1
  rw [Tr.pl, PT.lens] at h2
  have h3 := sizeL_len (plL ks)
  rw [plL_len] at h3
  exact ⟨h2.1, h2.2.1, by omega, by omega⟩
theorem fit_pairs {k : Int} {n v : List UInt8} {A : Option Addr} {ac : Nat} {ps : List (List UInt8 × List UInt8)} {K : Option Addr} {kc : Nat} {ks : List Tr} (h : (Tr.mk k n v A ac ps K kc ks).pl.fit) : ∀ p ∈ ps, p.1.length ≤ maxLen ∧ p.2.length ≤ maxLen := by
  have h2 := h.2
  rw [Tr.pl, PT.lens] at h2
  exact h2.2.2.2.2.1
theorem lens_fields {k : Int} {n v : List UInt8} {A : Option Addr} {ac : Nat} {ps : List (List UInt8 × List UInt8)} {K : Option Addr} {kc : Nat} {ks : List Tr} (h : (Tr.mk k n v A ac ps K kc ks).pl.lens) :
    ps.length ≤ 9223372036854775807 ∧ ks.length ≤ 9223372036854775807 := by
  rw [Tr.pl, PT.lens] at h
  have h1 := h.2.2.1
  have h2 := h.2.2.2.1
  rw [plL_len] at h2
  unfold maxLen at h1 h2
  omega
/-- How far below 0 the number of what is left can fall. -/
theorem parts_low : ∀ (t : PT) (l : Int), t.lens → 0 ≤ l → -9223372036854775808 ≤ t.parts l := by
  intro t
  induction t using PT.ind with
  | h k n v ps ks ih =>
    intro l hl h0
    rw [PT.lens] at hl
    obtain ⟨_, _, h3, _, _, h6⟩ := hl
    rw [lensL_iff] at h6
    have aux : ∀ (L : List PT), (∀ t ∈ L, ∀ l : Int, t.lens → 0 ≤ l → -9223372036854775808 ≤ t.parts l) → (∀ t ∈ L, t.lens) → ∀ l : Int, -9223372036854775808 ≤ l → -9223372036854775808 ≤ partsL L l := by
      intro L
      induction L with
      | nil => intro _ _ l h; rw [partsL]; exact h
      | cons a L ihL =>
        intro h hL l hl
        rw [partsL]
        split
        · exact hl
        · exact ihL (fun t ht => h t (.tail _ ht)) (fun t ht => hL t (.tail _ ht)) _ (h a (.head _) l (hL a (.head _)) (by omega))
    rw [PT.parts]
    unfold maxLen at h3
    exact aux ks ih h6 _ (by omega)
end Go.Proofs.YtpdaldpaceolnaaGreatDoor
namespace Go.Proofs.YtpdaldpaceolnaaGreatDoor
open Go.RowKit Go.Lib
theorem tree_info : (Tryz.prog.info? 27).map (fun i => (i.zero, i.size, i.bytes)) = some (some (.agg #[.int .i64 0, .string ⟨#[]⟩, .string ⟨#[]⟩, .slice none 0 0, .slice none 0 0]), 5, 88) := by kernel_rfl
theorem pair_info : (Tryz.prog.info? 39).map (fun i => (i.zero, i.size, i.bytes)) = some (some (.agg #[.string ⟨#[]⟩, .string ⟨#[]⟩]), 2, 32) := by kernel_rfl
/-- The cells of such a row. -/
theorem own_rd {w : World} {base : Nat} {e : TypeId} {size n : Nat} {v : Value} {xs : List Value} (h : w.ownsRow base e size v n xs) :
    ∃ A c, v = .slice A n c ∧ c ≤ maxLen ∧ RdP (fun b => v.ownBlock = some b) w size A n xs := by
  rcases h.2 with ⟨rfl, rfl⟩ | ⟨g, cap, cur, rfl, hb, hh, hc, hm, hs, ht⟩
  · exact ⟨none, 0, rfl, by unfold maxLen; omega, by simpa using h.1, fun h0 => absurd h0 (by omega)⟩
  · refine ⟨some ⟨g, 0, none⟩, cap, rfl, hm, h.1, fun _ => ⟨_, rfl, rfl, fun j u hu => ?_⟩⟩
    rw [← ht, List.getElem?_take] at hu
    split at hu
    · have hj : ((⟨g, 0, none⟩ : Addr).add j) = ⟨g, j, none⟩ := by unfold Addr.add; split <;> simp_all
      rw [hj]
      unfold World.cell?
      rw [hh]
      simpa using hu
    · cases hu
theorem RdP.reads {P : Nat → Prop} {w : World} {B size n : Nat} {A : Option Addr} {xs : List Value} (h : RdP P w size A n xs) (hP : ∀ b, P b → b < B) : Reads w B size A n xs :=
  ⟨h.1, fun hn => by
    obtain ⟨ad, e, hb, hc⟩ := h.2 hn
    exact ⟨ad, e, hP _ hb, hc⟩⟩
theorem rowP_one (L : List (List UInt8 × List UInt8)) : ∀ u ∈ rowP L, u.oneCell' = true := by
  intro u hu
  unfold rowP at hu
  rw [List.mem_flatMap] at hu
  obtain ⟨p, _, hp⟩ := hu
  simp at hp
  rcases hp with rfl | rfl <;> rfl
theorem cells_one (t : Tr) : ∀ u ∈ t.cells, u.oneCell' = true := by
  obtain ⟨k, n, v, A, ac, ps, K, kc, ks⟩ := t
  intro u hu
  unfold Tr.cells at hu
  simp at hu
  rcases hu with rfl | rfl | rfl | rfl | rfl <;> rfl
theorem rowT_snoc (L : List Tr) (t : Tr) : rowT (L ++ [t]) = rowT L ++ t.cells := by
  unfold rowT; rw [List.flatMap_append]; simp
theorem five_new (w : World) (x0 x1 x2 x3 x4 : Value) (t : TypeId) : ∀ j u, [x0, x1, x2, x3, x4][j]? = some u → (w.alloc (.cells #[x0, x1, x2, x3, x4] t)).cell? ((⟨w.heap.size, 0, none⟩ : Addr).add j) = some u := by
  intro j u hu
  have h := heap_alloc_new w (.cells #[x0, x1, x2, x3, x4] t)
  have hj : ((⟨w.heap.size, 0, none⟩ : Addr).add j) = ⟨w.heap.size, j, none⟩ := by unfold Addr.add; split <;> simp_all
  rw [hj]
  unfold World.cell?
  rw [h]
  simpa using hu
end Go.Proofs.YtpdaldpaceolnaaGreatDoor
namespace Go.Proofs.YtpdaldpaceolnaaGreatDoor
open Go.RowKit Go.Lib
mutual
/-- The kids' rows keep their own capacity. -/
def Tr.Caps : Tr → Prop
  | .mk _ _ _ _ _ _ _ kc ks => ks.length ≤ kc ∧ kc ≤ maxLen ∧ CapsL ks
def CapsL : List Tr → Prop
  | [] => True
  | t :: ts => t.Caps ∧ CapsL ts
end
theorem capsL_mem : ∀ {L : List Tr}, CapsL L → ∀ t ∈ L, t.Caps
  | _ :: _, h, _, .head _ => h.1
  | _ :: _, h, _, .tail _ hm => capsL_mem h.2 _ hm
theorem capsL_snoc : ∀ {L : List Tr} {t : Tr}, CapsL L → t.Caps → CapsL (L ++ [t])
  | [], _, _, h => ⟨h, trivial⟩
  | _ :: _, _, h, h' => ⟨h.1, capsL_snoc h.2 h'⟩
theorem own_cap {w : World} {base : Nat} {e : TypeId} {size n c : Nat} {A : Option Addr} {xs : List Value} (h : w.ownsRow base e size (.slice A n c) n xs) : n ≤ c ∧ c ≤ maxLen := by
  rcases h.2 with ⟨e1, e2⟩ | ⟨g, cap, cur, e1, _, _, h1, h2, _, _⟩
  · cases e1
    exact ⟨Nat.le_refl _, Nat.zero_le _⟩
  · cases e1
    exact ⟨h1, h2⟩
end Go.Proofs.YtpdaldpaceolnaaGreatDoor
namespace Go.Proofs.YtpdaldpaceolnaaGreatDoor
open Go.RowKit Go.Lib
/-- The pairs of an Elem. -/
def pairsR (ps : List (List UInt8 × List UInt8)) : Bool := ps.all (fun p => nameX p.1 && validX p.2) && decide (ps.map Prod.fst).Nodup
/-- The fields of a tree but its kids. -/
def headR (k : Int) (n v : List UInt8) (ps : List (List UInt8 × List UInt8)) (none : Bool) : Bool :=
  if k = 1 then n.isEmpty && v.isEmpty && ps.isEmpty
  else if k = 2 then nameX n && v.isEmpty && pairsR ps
  else if k = 3 then nameX n && validX v && ps.isEmpty && none
  else if k = 4 then n.isEmpty && !v.isEmpty && validX v && ps.isEmpty && none
  else if k = 5 then n.isEmpty && validX v && ps.isEmpty && none
  else false
def PT.k : PT → Int
  | .mk k _ _ _ _ => k
/-- A kid by its kind and that of the one ahead of it. -/
def kidR (k last : Int) : Bool := decide ((k = 2 ∨ k = 4 ∨ k = 5) ∧ ¬ (k = 4 ∧ last = 4))
mutual
def PT.right : PT → Nat → Bool
  | .mk k n v ps ks, d => decide (d ≤ 64) && headR k n v ps ks.isEmpty && rightL ks (d + 1) 0
def rightL : List PT → Nat → Int → Bool
  | [], _, _ => true
  | t :: ts, d, last => kidR t.k last && t.right d && rightL ts d t.k
end
end Go.Proofs.YtpdaldpaceolnaaGreatDoor
