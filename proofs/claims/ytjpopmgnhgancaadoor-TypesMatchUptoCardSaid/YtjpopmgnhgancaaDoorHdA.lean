/- Rows of items, of the call's own; items behind a new row; a region that draws its order. No condition beyond what the theorems state. -/
import Derived.Test.YtjpopmgnhgancaaDoorKdK
import Derived.Test.YtjpopmgnhgancaaDoorKdA
import Derived.Test.YtjpopmgnhgancaaDoorKdJ
import Derived.ArgAppend
import Derived.Test.YtjpopmgnhgancaaDoorKinds
import Derived.Test.YtjpopmgnhgancaaDoorWords
namespace Go.Proofs.YtjpopmgnhgancaaDoor
open Go.RowKit Go.Lib
set_option maxRecDepth 100000
theorem item_info : (Tryd.prog.info? 43).map (fun i => (i.zero, i.size, i.bytes)) = some (some (.agg #[.int .i64 0, .int .i64 0, .int .i64 0, .int .i64 0, .string ⟨#[]⟩, .bool false]), 6, 56) := by kernel_rfl
def itC (x : It) : List Value := [.int .i64 x.m, .int .i64 x.k, .int .i64 x.n, .int .i64 x.c, .string x.s, .bool x.b]
def rowI (L : List It) : List Value := L.flatMap itC
theorem rowI_app (L M : List It) : rowI (L ++ M) = rowI L ++ rowI M := by unfold rowI; simp
theorem rowI_len : ∀ L : List It, (rowI L).length = L.length * 6
  | [] => rfl
  | x :: L => by
    have := rowI_len L
    unfold rowI at this ⊢
    rw [List.flatMap_cons, List.length_append, this, List.length_cons]
    show 6 + _ = _
    omega
theorem rowI_one (L : List It) : ∀ u ∈ rowI L, u.oneCell' = true := by
  intro u hu
  unfold rowI at hu
  rw [List.mem_flatMap] at hu
  obtain ⟨p, _, hp⟩ := hu
  simp [itC] at hp
  rcases hp with rfl | rfl | rfl | rfl | rfl | rfl <;> rfl
theorem rowI_at : ∀ (L : List It) (j : Nat) (x : It), L[j]? = some x → ∀ (o : Nat) (u : Value), (itC x)[o]? = some u → (rowI L)[j * 6 + o]? = some u
  | [], j, x, h, _, _, _ => by simp at h
  | y :: L, 0, x, h, o, u, hu => by
    simp at h
    subst h
    unfold rowI
    rw [List.flatMap_cons, List.getElem?_append_left (by have := (List.getElem?_eq_some_iff.1 hu).1; omega)]
    simpa using hu
  | y :: L, j + 1, x, h, o, u, hu => by
    have ih := rowI_at L j x (by simpa using h) o u hu
    unfold rowI at ih ⊢
    rw [List.flatMap_cons, List.getElem?_append_right (by show 6 ≤ _; omega)]
    show (List.flatMap itC L)[(j + 1) * 6 + o - 6]? = _
    rw [show (j + 1) * 6 + o - 6 = j * 6 + o by omega]
    exact ih
theorem itC_at (x : It) {o : Nat} {u : Value} (h : (itC x)[o]? = some u) : o < 6 := (List.getElem?_eq_some_iff.1 h).1
/-- A row whose cells are those of items is a row of items. -/
theorem irow_of {P : Nat → Prop} {w : World} {A : Option Addr} {n : Nat} {L : List It} (h : RdP P w 6 A n (rowI L)) (hP : ∀ b, P b → b < w.heap.size) : IRow6 w A L := by
  intro j x hx
  have hlen := h.1
  rw [rowI_len] at hlen
  have hj := (List.getElem?_eq_some_iff.1 hx).1
  obtain ⟨ad, e, hb, hc⟩ := h.2 (by omega)
  have at_ : ∀ o u, (itC x)[o]? = some u → w.cell? (ad.add (j * 6 + o)) = some u := fun o u hu => hc _ u (rowI_at L j x hx o u hu)
  have h0 := at_ 0 _ rfl
  rw [Nat.add_zero] at h0
  refine ⟨ad, e, by rw [block_of_add]; exact hP _ hb, h0, ?_, ?_, ?_, ?_, ?_⟩
  · rw [add_off ad (j * 6) 1 (by omega)]; exact at_ 1 _ rfl
  · rw [add_off ad (j * 6) 2 (by omega)]; exact at_ 2 _ rfl
  · rw [add_off ad (j * 6) 3 (by omega)]; exact at_ 3 _ rfl
  · rw [add_off ad (j * 6) 4 (by omega)]; exact at_ 4 _ rfl
  · rw [add_off ad (j * 6) 5 (by omega)]; exact at_ 5 _ rfl
theorem rowI_back : ∀ (L : List It) (i : Nat) (u : Value), (rowI L)[i]? = some u → ∃ j x o, i = j * 6 + o ∧ L[j]? = some x ∧ (itC x)[o]? = some u
  | [], i, u, h => by simp [rowI] at h
  | y :: L, i, u, h => by
    unfold rowI at h
    rw [List.flatMap_cons] at h
    rcases Nat.lt_or_ge i 6 with hi | hi
    · rw [List.getElem?_append_left (by show i < 6; exact hi)] at h
      exact ⟨0, y, i, by omega, rfl, h⟩
    · rw [List.getElem?_append_right (by show 6 ≤ i; exact hi)] at h
      obtain ⟨j, x, o, e, hx, hu⟩ := rowI_back L (i - 6) u h
      exact ⟨j + 1, x, o, by omega, by simpa using hx, hu⟩
/-- A row of items reads as their cells. -/
theorem irow_reads {w : World} {A : Option Addr} {L : List It} (h : IRow6 w A L) {B : Nat} (hB : w.heap.size ≤ B) : Reads w B 6 A L.length (rowI L) := by
  refine ⟨rowI_len L, fun h0 => ?_⟩
  obtain ⟨x0, hx0⟩ : ∃ x, L[0]? = some x := ⟨_, List.getElem?_eq_getElem h0⟩
  obtain ⟨ad, e, hb, _⟩ := h 0 x0 hx0
  rw [block_of_add] at hb
  refine ⟨ad, e, Nat.lt_of_lt_of_le hb hB, fun i u hu => ?_⟩
  obtain ⟨j, x, o, rfl, hx, ho⟩ := rowI_back L i u hu
  obtain ⟨ad', e', _, c0, c1, c2, c3, c4, c5⟩ := h j x hx
  obtain rfl : ad = ad' := Option.some.inj (e.symm.trans e')
  have ho6 := itC_at x ho
  rcases (by omega : o = 0 ∨ o = 1 ∨ o = 2 ∨ o = 3 ∨ o = 4 ∨ o = 5) with rfl | rfl | rfl | rfl | rfl | rfl <;> (simp [itC] at ho; subst ho)
  · exact c0
  · rw [← add_off ad (j * 6) 1 (by omega)]; exact c1
  · rw [← add_off ad (j * 6) 2 (by omega)]; exact c2
  · rw [← add_off ad (j * 6) 3 (by omega)]; exact c3
  · rw [← add_off ad (j * 6) 4 (by omega)]; exact c4
  · rw [← add_off ad (j * 6) 5 (by omega)]; exact c5
theorem IRow6.below {w w' : World} {A : Option Addr} {L : List It} (h : IRow6 w A L) (hb : Below w.heap.size w w') : IRow6 w' A L := fun j x hx => by
  obtain ⟨ad, e, hb0, d0, d1, d2, d3, d4, d5⟩ := h j x hx
  exact ⟨ad, e, Nat.lt_of_lt_of_le hb0 hb.size, (hb.cell hb0).trans d0, (hb.cell (p := { block := (ad.add (j * 6)).block, off := (ad.add (j * 6)).off + 1 }) hb0).trans d1, (hb.cell (p := { block := (ad.add (j * 6)).block, off := (ad.add (j * 6)).off + 2 }) hb0).trans d2, (hb.cell (p := { block := (ad.add (j * 6)).block, off := (ad.add (j * 6)).off + 3 }) hb0).trans d3, (hb.cell (p := { block := (ad.add (j * 6)).block, off := (ad.add (j * 6)).off + 4 }) hb0).trans d4, (hb.cell (p := { block := (ad.add (j * 6)).block, off := (ad.add (j * 6)).off + 5 }) hb0).trans d5⟩
/-- A row of the call's own that holds items. -/
theorem irow_own {w : World} {base n : Nat} {v : Value} {L : List It} (h : w.ownsRow base 43 6 v n (rowI L)) : ∃ A c, v = .slice A n c ∧ IRow6 w A L := by
  obtain ⟨A, c, e, _, hr⟩ := own_rd h
  exact ⟨A, c, e, irow_of hr fun b hb => (own_lt h hb).2⟩
end Go.Proofs.YtjpopmgnhgancaaDoor
namespace Go.Proofs.YtjpopmgnhgancaaDoor
open Go.RowKit Go.Lib
set_option maxRecDepth 100000
theorem item_parts : ∃ i, Tryd.prog.info? 43 = some i ∧ i.zero = some (.agg #[.int .i64 0, .int .i64 0, .int .i64 0, .int .i64 0, .string ⟨#[]⟩, .bool false]) ∧ i.size = 6 ∧ i.bytes = 56 := by
  obtain ⟨i, h1, h2, h3, h4⟩ := info_parts item_info
  exact ⟨i, h1, h2, h3, h4⟩
theorem own_more {w : World} {b b' : Nat} {e : TypeId} {size n : Nat} {v : Value} {xs : List Value} (h : w.ownsRow b e size v n xs) (hb : b' ≤ b) : w.ownsRow b' e size v n xs := by
  refine ⟨h.1, ?_⟩
  rcases h.2 with h | ⟨g, cap, cur, rfl, e2, e3⟩
  · exact .inl h
  · exact .inr ⟨g, cap, cur, rfl, by omega, e3⟩
theorem run_append_fresh (w : World) (ty : TypeId) (base g : Nat) (A : Option Addr) (m c : Nat) (L : List It) (hA : IRow6 w A L) (hm : L.length = m) (hm1 : m ≤ 1048576) (hg : w.heap[g]? = some (.cells #[] 43 (0, 0))) (hb : base ≤ g) :
    ∃ v' w', (Builtin.append_ #[27, 27] ty #[.slice (some ⟨g, 0, none⟩) 0 0, .slice A m c]).run Tryd.prog w = .ok v' w' ∧ w'.ownsRow base 43 6 v' m (rowI L) ∧ Below w.heap.size w w' := by
  obtain ⟨i, hi, hz, hs, hy⟩ := item_parts
  have hr := irow_reads hA (Nat.le_refl _)
  rw [hm] at hr
  rcases Nat.eq_zero_or_pos m with h0 | h0
  · subst h0
    obtain rfl : L = [] := List.eq_nil_of_length_eq_zero hm
    refine ⟨.slice (some ⟨g, 0, none⟩) 0 0, w, ?_, ⟨rfl, .inr ⟨g, 0, #[], rfl, hb, hg, Nat.le_refl _, by simp [maxLen], rfl, rfl⟩⟩, Below.refl _ _⟩
    cases A <;> simp [Builtin.append_, run_underlying Tryd.underlying27, sizeOf, typeInfo, hi, Builtin.lenOf, Builtin.firstCells, storeCells, loadCells, loadCellsFrom]
  · obtain ⟨ad, rfl, _, hc⟩ := hr.2 h0
    have hlt : g < w.heap.size := (Array.getElem?_eq_some_iff.1 hg).1
    obtain ⟨v', w', hrun, hown, hgr⟩ := run_append_arg_grows (P := Tryd.prog) w 27 ty 43 i _ 6 56 Tryd.underlying27 hi hz hs hy rfl (by omega) ⟨g, 0, none⟩ 0 0 [] rfl (fun j u hu => by simp at hu) ad m c (rowI L) hr.1 hc (by omega) (by unfold maxLen; omega) (by omega)
    rw [Nat.zero_add, List.nil_append] at hown
    refine ⟨v', w', hrun, own_more hown (by omega), (Below.refl _ _).grown hgr (Nat.le_refl _) (fun k hk => by cases hk)⟩
theorem run_append_items (w : World) (ty : TypeId) (base : Nat) (v : Value) (n : Nat) (K : List It) (hown : w.ownsRow base 43 6 v n (rowI K)) (hn1 : n ≤ 1048576) (hbase : base ≤ w.heap.size) (A : Option Addr) (m c : Nat) (L : List It) (hA : IRow6 w A L) (hm : L.length = m) (hm1 : m ≤ 1048576) :
    ∃ v' w', (Builtin.append_ #[27, 27] ty #[v, .slice A m c]).run Tryd.prog w = .ok v' w' ∧ w'.ownsRow base 43 6 v' (n + m) (rowI (K ++ L)) ∧ Below base w w' := by
  obtain ⟨i, hi, hz, hs, hy⟩ := item_parts
  have hr := irow_reads hA (Nat.le_refl _)
  rw [hm] at hr
  obtain ⟨v', w', hrun, h2, h3, h4⟩ := run_append_any (P := Tryd.prog) w base 27 ty 43 i _ 6 56 Tryd.underlying27 hi hz hs hy rfl (by omega) v n (rowI K) hown w.heap.size A m c (rowI L) hr (rowI_one L) (by unfold maxLen; omega) (by omega) hbase
  rw [← rowI_app] at h2
  exact ⟨v', w', hrun, h2, (Below.refl _ _).grown h3 hbase (fun k hk => (own_lt hown hk).1)⟩
section
variable {o : Oper} {a : Act} {w : World} {K : Act → World → Prop} {Q : Exit → Act → World → Prop}
theorem wp_append_fresh (s x : Operand) (ho : o.op = .call { callee := .builtin .append, args := #[s, x], argTypes := #[27, 27] }) (base g : Nat) (A : Option Addr) (m c : Nat) (L : List It) (hsv : a.eval s = .slice (some ⟨g, 0, none⟩) 0 0) (hxv : a.eval x = .slice A m c) (hA : IRow6 w A L) (hm : L.length = m) (hm1 : m ≤ 1048576) (hg : w.heap[g]? = some (.cells #[] 43 (0, 0))) (hb : base ≤ g)
    (h : ∀ v' w', w'.ownsRow base 43 6 v' m (rowI L) → Below w.heap.size w w' → K (a.put o.dst v') w') : o.wp Tryd.prog a w K Q := by
  obtain ⟨v', w', hrun, h2, h3⟩ := run_append_fresh w o.type base g A m c L hA hm hm1 hg hb
  unfold Oper.wp execOp
  simp only [ho, resolve, invoke, builtin, Sem.run_bind, Sem.run_pure, Result.andThen_ok, List.map_toArray, List.map_cons, List.map_nil, hsv, hxv, hrun]
  exact h v' w' h2 h3
theorem wp_append_items (s x : Operand) (ho : o.op = .call { callee := .builtin .append, args := #[s, x], argTypes := #[27, 27] }) (base : Nat) (v : Value) (n : Nat) (M : List It) (hown : w.ownsRow base 43 6 v n (rowI M)) (hn1 : n ≤ 1048576) (hbase : base ≤ w.heap.size) (A : Option Addr) (m c : Nat) (L : List It) (hsv : a.eval s = v) (hxv : a.eval x = .slice A m c) (hA : IRow6 w A L) (hm : L.length = m) (hm1 : m ≤ 1048576)
    (h : ∀ v' w', w'.ownsRow base 43 6 v' (n + m) (rowI (M ++ L)) → Below base w w' → K (a.put o.dst v') w') : o.wp Tryd.prog a w K Q := by
  obtain ⟨v', w', hrun, h2, h3⟩ := run_append_items w o.type base v n M hown hn1 hbase A m c L hA hm hm1
  unfold Oper.wp execOp
  simp only [ho, resolve, invoke, builtin, Sem.run_bind, Sem.run_pure, Result.andThen_ok, List.map_toArray, List.map_cons, List.map_nil, hsv, hxv, hrun]
  exact h v' w' h2 h3
variable {ops : Array Oper} {rest : List Oper}
theorem wpList_want (hw : Region.wanted o (yielded ops a.tmps) = true) (h : ∀ K : Act → World → Prop, (∀ a w, wpList Tryd.prog ops Q rest a w → K a w) → o.wp Tryd.prog a w K Q) : wpList Tryd.prog ops Q (o :: rest) a w :=
  wpList_step fun K hK => by rw [if_pos hw]; exact h K hK
end
end Go.Proofs.YtjpopmgnhgancaaDoor
namespace Go.Proofs.YtjpopmgnhgancaaDoor
open Go.RowKit Go.Lib
set_option maxRecDepth 100000
set_option maxHeartbeats 8000000
theorem three_of {a : Array Value} (h : a.size = 3) : ∃ v0 v1 v2, a = #[v0, v1, v2] := by
  obtain ⟨l⟩ := a
  match l, h with
  | [v0, v1, v2], _ => exact ⟨v0, v1, v2, rfl⟩
def HoI (W : World) (b : Nat) (xi xo : Int) (xn : ByteArray) (yi yo : Int) (yn : ByteArray) (zi zo : Int) (zn : ByteArray) (Ai : Option Addr) (ni ci : Nat) (c0 c1 c2 c3 c5 c6 c11 c12 c13 c14 c15 c24 c25 c26 c27 c28 c29 c30 c31 c32 c33 c34 c35 c36 c37 c38 c39 c40 c41 c42 c43 c44 c45 c46 c47 c48 c49 c50 c51 c52 c53 c54 c55 c56 c57 c58 c59 c60 c61 c62 c63 c64 c65 c66 c67 c68 c69 c70 c71 c72 c73 c74 c75 c76 c77 c78 c79 c80 c81 c82 c83 c84 c85 c86 c87 c88 c89 c90 c91 c92 c93 c94 c95 c96 c97 c98 c99 c100 c101 c102 c103 c104 c105 c106 c107 c108 c109 c110 c111 c112 c113 c114 c115 c116 c117 c118 c119 c120 c121 c122 c123 c124 c125 c126 c127 c128 c129 c130 c131 c132 c133 c134 c135 c136 c137 c138 c139 c140 c141 c142 c143 c144 c145 c146 c147 c148 c149 c150 c151 c152 c153 c154 c155 c156 c157 c158 c159 : Value) (l : Nat → Prop) (A : Act) (w : World) : Prop :=
  ∃ (s7 s8 s9 s10 s16 s17 s18 s19 s20 s21 s22 s23 : Value) (ga gb gc : Nat) (ca cb cc : Array Value), A = { tmps := #[c0, c1, c2, c3, .pointer (some ⟨b, 0, none⟩), c5, c6, s7, s8, s9, s10, c11, c12, c13, c14, c15, s16, s17, s18, s19, s20, s21, s22, s23, c24, c25, c26, c27, c28, c29, c30, c31, c32, c33, c34, c35, c36, c37, c38, c39, c40, c41, c42, c43, c44, c45, c46, c47, c48, c49, c50, c51, c52, c53, c54, c55, c56, c57, c58, c59, c60, c61, c62, c63, c64, c65, c66, c67, c68, c69, c70, c71, c72, c73, c74, c75, c76, c77, c78, c79, c80, c81, c82, c83, c84, c85, c86, c87, c88, c89, c90, c91, c92, c93, c94, c95, c96, c97, c98, c99, c100, c101, c102, c103, c104, c105, c106, c107, c108, c109, c110, c111, c112, c113, c114, c115, c116, c117, c118, c119, c120, c121, c122, c123, c124, c125, c126, c127, c128, c129, c130, c131, c132, c133, c134, c135, c136, c137, c138, c139, c140, c141, c142, c143, c144, c145, c146, c147, c148, c149, c150, c151, c152, c153, c154, c155, c156, c157, c158, c159], defers := [] } ∧
  (l 0 → s16 = .pointer (some ⟨b, 0, none⟩)) ∧
  (l 1 → s17 = .agg #[.int .i64 xi, .string xn, .int .i64 xo]) ∧
  (l 2 → s18 = .pointer (some ⟨b, 3, none⟩)) ∧
  (l 3 → s19 = .agg #[.int .i64 yi, .string yn, .int .i64 yo]) ∧
  (l 4 → s20 = .pointer (some ⟨b, 6, none⟩)) ∧
  (l 5 → s21 = .agg #[.int .i64 zi, .string zn, .int .i64 zo]) ∧
  (l 6 → s22 = .pointer (some ⟨b, 9, none⟩)) ∧
  (l 7 → s23 = .slice Ai ni ci) ∧
  (l 14 → s10 = .slice Ai ni ci) ∧
  (l 8 → s7 = .pointer (some ⟨ga, 0, none⟩) ∧ W.heap.size ≤ ga ∧ Blk w ga 26 ca ∧ ca.size = 3 ∧ (l 11 → ca = #[.int .i64 xi, .string xn, .int .i64 xo])) ∧
  (l 9 → s8 = .pointer (some ⟨gb, 0, none⟩) ∧ W.heap.size ≤ gb ∧ Blk w gb 26 cb ∧ cb.size = 3 ∧ (l 12 → cb = #[.int .i64 yi, .string yn, .int .i64 yo])) ∧
  (l 10 → s9 = .pointer (some ⟨gc, 0, none⟩) ∧ W.heap.size ≤ gc ∧ Blk w gc 26 cc ∧ cc.size = 3 ∧ (l 13 → cc = #[.int .i64 zi, .string zn, .int .i64 zo])) ∧
  (l 8 → l 9 → ga ≠ gb) ∧ (l 8 → l 10 → ga ≠ gc) ∧ (l 9 → l 10 → gb ≠ gc) ∧ (l 11 → l 8) ∧ (l 12 → l 9) ∧ (l 13 → l 10) ∧ Below W.heap.size W w
theorem Ho1_region {b : Nat} {xi xo : Int} {xn : ByteArray} {yi yo : Int} {yn : ByteArray} {zi zo : Int} {zn : ByteArray} {Ai : Option Addr} {ni ci : Nat} {z7 z8 z9 z10 z16 z17 z18 z19 z20 z21 z22 z23 c0 c1 c2 c3 c5 c6 c11 c12 c13 c14 c15 c24 c25 c26 c27 c28 c29 c30 c31 c32 c33 c34 c35 c36 c37 c38 c39 c40 c41 c42 c43 c44 c45 c46 c47 c48 c49 c50 c51 c52 c53 c54 c55 c56 c57 c58 c59 c60 c61 c62 c63 c64 c65 c66 c67 c68 c69 c70 c71 c72 c73 c74 c75 c76 c77 c78 c79 c80 c81 c82 c83 c84 c85 c86 c87 c88 c89 c90 c91 c92 c93 c94 c95 c96 c97 c98 c99 c100 c101 c102 c103 c104 c105 c106 c107 c108 c109 c110 c111 c112 c113 c114 c115 c116 c117 c118 c119 c120 c121 c122 c123 c124 c125 c126 c127 c128 c129 c130 c131 c132 c133 c134 c135 c136 c137 c138 c139 c140 c141 c142 c143 c144 c145 c146 c147 c148 c149 c150 c151 c152 c153 c154 c155 c156 c157 c158 c159 : Value} {Q : Exit → Act → World → Prop} {W : World} (h0 : W.cell? ⟨b, 0, none⟩ = some (.int .i64 xi)) (h1 : W.cell? ⟨b, 1, none⟩ = some (.string xn)) (h2 : W.cell? ⟨b, 2, none⟩ = some (.int .i64 xo)) (h3 : W.cell? ⟨b, 3, none⟩ = some (.int .i64 yi)) (h4 : W.cell? ⟨b, 4, none⟩ = some (.string yn)) (h5 : W.cell? ⟨b, 5, none⟩ = some (.int .i64 yo)) (h6 : W.cell? ⟨b, 6, none⟩ = some (.int .i64 zi)) (h7 : W.cell? ⟨b, 7, none⟩ = some (.string zn)) (h8 : W.cell? ⟨b, 8, none⟩ = some (.int .i64 zo)) (h9 : W.cell? ⟨b, 9, none⟩ = some (.slice Ai ni ci))
    (hQ : ∀ (ga gb gc : Nat) (w : World), ga ≠ gb → ga ≠ gc → gb ≠ gc → W.heap.size ≤ ga → W.heap.size ≤ gb → W.heap.size ≤ gc → Blk w ga 26 #[.int .i64 xi, .string xn, .int .i64 xo] → Blk w gb 26 #[.int .i64 yi, .string yn, .int .i64 yo] → Blk w gc 26 #[.int .i64 zi, .string zn, .int .i64 zo] → Below W.heap.size W w → Q .normal { tmps := #[c0, c1, c2, c3, .pointer (some ⟨b, 0, none⟩), c5, c6, .pointer (some ⟨ga, 0, none⟩), .pointer (some ⟨gb, 0, none⟩), .pointer (some ⟨gc, 0, none⟩), .slice Ai ni ci, c11, c12, c13, c14, c15, .pointer (some ⟨b, 0, none⟩), .agg #[.int .i64 xi, .string xn, .int .i64 xo], .pointer (some ⟨b, 3, none⟩), .agg #[.int .i64 yi, .string yn, .int .i64 yo], .pointer (some ⟨b, 6, none⟩), .agg #[.int .i64 zi, .string zn, .int .i64 zo], .pointer (some ⟨b, 9, none⟩), .slice Ai ni ci, c24, c25, c26, c27, c28, c29, c30, c31, c32, c33, c34, c35, c36, c37, c38, c39, c40, c41, c42, c43, c44, c45, c46, c47, c48, c49, c50, c51, c52, c53, c54, c55, c56, c57, c58, c59, c60, c61, c62, c63, c64, c65, c66, c67, c68, c69, c70, c71, c72, c73, c74, c75, c76, c77, c78, c79, c80, c81, c82, c83, c84, c85, c86, c87, c88, c89, c90, c91, c92, c93, c94, c95, c96, c97, c98, c99, c100, c101, c102, c103, c104, c105, c106, c107, c108, c109, c110, c111, c112, c113, c114, c115, c116, c117, c118, c119, c120, c121, c122, c123, c124, c125, c126, c127, c128, c129, c130, c131, c132, c133, c134, c135, c136, c137, c138, c139, c140, c141, c142, c143, c144, c145, c146, c147, c148, c149, c150, c151, c152, c153, c154, c155, c156, c157, c158, c159], defers := [] } w) :
    Code.wp Tryd.prog ((Tryd.f5.body.bind (regionOf 1)).getD .skip) Q { tmps := #[c0, c1, c2, c3, .pointer (some ⟨b, 0, none⟩), c5, c6, z7, z8, z9, z10, c11, c12, c13, c14, c15, z16, z17, z18, z19, z20, z21, z22, z23, c24, c25, c26, c27, c28, c29, c30, c31, c32, c33, c34, c35, c36, c37, c38, c39, c40, c41, c42, c43, c44, c45, c46, c47, c48, c49, c50, c51, c52, c53, c54, c55, c56, c57, c58, c59, c60, c61, c62, c63, c64, c65, c66, c67, c68, c69, c70, c71, c72, c73, c74, c75, c76, c77, c78, c79, c80, c81, c82, c83, c84, c85, c86, c87, c88, c89, c90, c91, c92, c93, c94, c95, c96, c97, c98, c99, c100, c101, c102, c103, c104, c105, c106, c107, c108, c109, c110, c111, c112, c113, c114, c115, c116, c117, c118, c119, c120, c121, c122, c123, c124, c125, c126, c127, c128, c129, c130, c131, c132, c133, c134, c135, c136, c137, c138, c139, c140, c141, c142, c143, c144, c145, c146, c147, c148, c149, c150, c151, c152, c153, c154, c155, c156, c157, c158, c159], defers := [] } W := by
  conv => arg 2; whnf
  refine wp_region_inv (by kernel_rfl) (by kernel_rfl) (fun listed A w => HoI W b xi xo xn yi yo yn zi zo zn Ai ni ci c0 c1 c2 c3 c5 c6 c11 c12 c13 c14 c15 c24 c25 c26 c27 c28 c29 c30 c31 c32 c33 c34 c35 c36 c37 c38 c39 c40 c41 c42 c43 c44 c45 c46 c47 c48 c49 c50 c51 c52 c53 c54 c55 c56 c57 c58 c59 c60 c61 c62 c63 c64 c65 c66 c67 c68 c69 c70 c71 c72 c73 c74 c75 c76 c77 c78 c79 c80 c81 c82 c83 c84 c85 c86 c87 c88 c89 c90 c91 c92 c93 c94 c95 c96 c97 c98 c99 c100 c101 c102 c103 c104 c105 c106 c107 c108 c109 c110 c111 c112 c113 c114 c115 c116 c117 c118 c119 c120 c121 c122 c123 c124 c125 c126 c127 c128 c129 c130 c131 c132 c133 c134 c135 c136 c137 c138 c139 c140 c141 c142 c143 c144 c145 c146 c147 c148 c149 c150 c151 c152 c153 c154 c155 c156 c157 c158 c159 (fun j => listed.getD j false = true) A w) ?_ ?_ ?_
  · exact ⟨_, _, _, _, _, _, _, _, _, _, _, _, 0, 0, 0, #[], #[], #[], rfl, fun h => absurd h l0, fun h => absurd h l0, fun h => absurd h l0, fun h => absurd h l0, fun h => absurd h l0, fun h => absurd h l0, fun h => absurd h l0, fun h => absurd h l0, fun h => absurd h l0, fun h => absurd h l0, fun h => absurd h l0, fun h => absurd h l0, fun h => absurd h l0, fun h => absurd h l0, fun h => absurd h l0, fun h => absurd h l0, fun h => absurd h l0, fun h => absurd h l0, bdr (Below.refl _ _)⟩
  · intro i o listed A w hi ho hdp hnl hI
    obtain ⟨s7, s8, s9, s10, s16, s17, s18, s19, s20, s21, s22, s23, ga, gb, gc, ca, cb, cc, rfl, F0, F1, F2, F3, F4, F5, F6, F7, F14, F8, F9, F10, N89, N8t, N9t, G11, G12, G13, FB⟩ := hI
    have hi' : i < 15 := hi
    clear hi
    have lm : ∀ j, j ≠ i → (listed.setIfInBounds i true).getD j false = true → listed.getD j false = true := fun j hj h => ls (fun e => hj e.symm) h
    have lno : ¬ listed.getD i false = true := by rw [lf hnl]; decide
    have hbl : b < W.heap.size := World.block_lt_of_cell? W _ h0
    rcases (by omega : i = 0 ∨ i = 1 ∨ i = 2 ∨ i = 3 ∨ i = 4 ∨ i = 5 ∨ i = 6 ∨ i = 7 ∨ i = 8 ∨ i = 9 ∨ i = 10 ∨ i = 11 ∨ i = 12 ∨ i = 13 ∨ i = 14) with rfl | rfl | rfl | rfl | rfl | rfl | rfl | rfl | rfl | rfl | rfl | rfl | rfl | rfl | rfl
    · simp only [List.getElem?_toArray, List.getElem?_cons_zero, Option.some.injEq] at ho
      subst ho
      refine wpOp_step rfl (fun K hK => ?_)
      go_simp
      refine hK _ _ ?_
      refine ⟨_, _, _, _, _, _, _, _, _, _, _, _, ga, gb, gc, ca, cb, cc, rfl, ?_, ?_, ?_, ?_, ?_, ?_, ?_, ?_, ?_, ?_, ?_, ?_, ?_, ?_, ?_, ?_, ?_, ?_, ?_⟩
      · exact fun _ => rfl
      · exact fun h => F1 (lm _ (by decide) h)
      · exact fun h => F2 (lm _ (by decide) h)
      · exact fun h => F3 (lm _ (by decide) h)
      · exact fun h => F4 (lm _ (by decide) h)
      · exact fun h => F5 (lm _ (by decide) h)
      · exact fun h => F6 (lm _ (by decide) h)
      · exact fun h => F7 (lm _ (by decide) h)
      · exact fun h => F14 (lm _ (by decide) h)
      · exact fun h => ⟨(F8 (lm _ (by decide) h)).1, (F8 (lm _ (by decide) h)).2.1, (F8 (lm _ (by decide) h)).2.2.1, (F8 (lm _ (by decide) h)).2.2.2.1, fun k => (F8 (lm _ (by decide) h)).2.2.2.2 (lm _ (by decide) k)⟩
      · exact fun h => ⟨(F9 (lm _ (by decide) h)).1, (F9 (lm _ (by decide) h)).2.1, (F9 (lm _ (by decide) h)).2.2.1, (F9 (lm _ (by decide) h)).2.2.2.1, fun k => (F9 (lm _ (by decide) h)).2.2.2.2 (lm _ (by decide) k)⟩
      · exact fun h => ⟨(F10 (lm _ (by decide) h)).1, (F10 (lm _ (by decide) h)).2.1, (F10 (lm _ (by decide) h)).2.2.1, (F10 (lm _ (by decide) h)).2.2.2.1, fun k => (F10 (lm _ (by decide) h)).2.2.2.2 (lm _ (by decide) k)⟩
      · exact fun h k => N89 (lm _ (by decide) h) (lm _ (by decide) k)
      · exact fun h k => N8t (lm _ (by decide) h) (lm _ (by decide) k)
      · exact fun h k => N9t (lm _ (by decide) h) (lm _ (by decide) k)
      · exact fun h => la (G11 (lm _ (by decide) h))
      · exact fun h => la (G12 (lm _ (by decide) h))
      · exact fun h => la (G13 (lm _ (by decide) h))
      · exact FB
    · simp only [List.getElem?_toArray, List.getElem?_cons_zero, List.getElem?_cons_succ, Option.some.injEq] at ho
      subst ho
      have L0 := hdp ⟨0, .data⟩ (by simp) rfl
      obtain rfl := F0 L0
      have e0 := (FB.cell (p := ⟨b, 0, none⟩) hbl).trans h0
      have e1 := (FB.cell (p := ⟨b, 1, none⟩) hbl).trans h1
      have e2 := (FB.cell (p := ⟨b, 2, none⟩) hbl).trans h2
      refine wpOp_step rfl (fun K hK => ?_)
      go_simp
      refine hK _ _ ?_
      refine ⟨_, _, _, _, _, _, _, _, _, _, _, _, ga, gb, gc, ca, cb, cc, rfl, ?_, ?_, ?_, ?_, ?_, ?_, ?_, ?_, ?_, ?_, ?_, ?_, ?_, ?_, ?_, ?_, ?_, ?_, ?_⟩
      · exact fun h => F0 (lm _ (by decide) h)
      · exact fun _ => rfl
      · exact fun h => F2 (lm _ (by decide) h)
      · exact fun h => F3 (lm _ (by decide) h)
      · exact fun h => F4 (lm _ (by decide) h)
      · exact fun h => F5 (lm _ (by decide) h)
      · exact fun h => F6 (lm _ (by decide) h)
      · exact fun h => F7 (lm _ (by decide) h)
      · exact fun h => F14 (lm _ (by decide) h)
      · exact fun h => ⟨(F8 (lm _ (by decide) h)).1, (F8 (lm _ (by decide) h)).2.1, (F8 (lm _ (by decide) h)).2.2.1, (F8 (lm _ (by decide) h)).2.2.2.1, fun k => (F8 (lm _ (by decide) h)).2.2.2.2 (lm _ (by decide) k)⟩
      · exact fun h => ⟨(F9 (lm _ (by decide) h)).1, (F9 (lm _ (by decide) h)).2.1, (F9 (lm _ (by decide) h)).2.2.1, (F9 (lm _ (by decide) h)).2.2.2.1, fun k => (F9 (lm _ (by decide) h)).2.2.2.2 (lm _ (by decide) k)⟩
      · exact fun h => ⟨(F10 (lm _ (by decide) h)).1, (F10 (lm _ (by decide) h)).2.1, (F10 (lm _ (by decide) h)).2.2.1, (F10 (lm _ (by decide) h)).2.2.2.1, fun k => (F10 (lm _ (by decide) h)).2.2.2.2 (lm _ (by decide) k)⟩
      · exact fun h k => N89 (lm _ (by decide) h) (lm _ (by decide) k)
      · exact fun h k => N8t (lm _ (by decide) h) (lm _ (by decide) k)
      · exact fun h k => N9t (lm _ (by decide) h) (lm _ (by decide) k)
      · exact fun h => la (G11 (lm _ (by decide) h))
      · exact fun h => la (G12 (lm _ (by decide) h))
      · exact fun h => la (G13 (lm _ (by decide) h))
      · exact FB
    · simp only [List.getElem?_toArray, List.getElem?_cons_zero, List.getElem?_cons_succ, Option.some.injEq] at ho
      subst ho
      refine wpOp_step rfl (fun K hK => ?_)
      go_simp
      refine hK _ _ ?_
      refine ⟨_, _, _, _, _, _, _, _, _, _, _, _, ga, gb, gc, ca, cb, cc, rfl, ?_, ?_, ?_, ?_, ?_, ?_, ?_, ?_, ?_, ?_, ?_, ?_, ?_, ?_, ?_, ?_, ?_, ?_, ?_⟩
      · exact fun h => F0 (lm _ (by decide) h)
      · exact fun h => F1 (lm _ (by decide) h)
      · exact fun _ => rfl
      · exact fun h => F3 (lm _ (by decide) h)
      · exact fun h => F4 (lm _ (by decide) h)
      · exact fun h => F5 (lm _ (by decide) h)
      · exact fun h => F6 (lm _ (by decide) h)
      · exact fun h => F7 (lm _ (by decide) h)
      · exact fun h => F14 (lm _ (by decide) h)
      · exact fun h => ⟨(F8 (lm _ (by decide) h)).1, (F8 (lm _ (by decide) h)).2.1, (F8 (lm _ (by decide) h)).2.2.1, (F8 (lm _ (by decide) h)).2.2.2.1, fun k => (F8 (lm _ (by decide) h)).2.2.2.2 (lm _ (by decide) k)⟩
      · exact fun h => ⟨(F9 (lm _ (by decide) h)).1, (F9 (lm _ (by decide) h)).2.1, (F9 (lm _ (by decide) h)).2.2.1, (F9 (lm _ (by decide) h)).2.2.2.1, fun k => (F9 (lm _ (by decide) h)).2.2.2.2 (lm _ (by decide) k)⟩
      · exact fun h => ⟨(F10 (lm _ (by decide) h)).1, (F10 (lm _ (by decide) h)).2.1, (F10 (lm _ (by decide) h)).2.2.1, (F10 (lm _ (by decide) h)).2.2.2.1, fun k => (F10 (lm _ (by decide) h)).2.2.2.2 (lm _ (by decide) k)⟩
      · exact fun h k => N89 (lm _ (by decide) h) (lm _ (by decide) k)
      · exact fun h k => N8t (lm _ (by decide) h) (lm _ (by decide) k)
      · exact fun h k => N9t (lm _ (by decide) h) (lm _ (by decide) k)
      · exact fun h => la (G11 (lm _ (by decide) h))
      · exact fun h => la (G12 (lm _ (by decide) h))
      · exact fun h => la (G13 (lm _ (by decide) h))
      · exact FB
    · simp only [List.getElem?_toArray, List.getElem?_cons_zero, List.getElem?_cons_succ, Option.some.injEq] at ho
      subst ho
      have L2 := hdp ⟨2, .data⟩ (by simp) rfl
      obtain rfl := F2 L2
      have e0 := (FB.cell (p := ⟨b, 3, none⟩) hbl).trans h3
      have e1 := (FB.cell (p := ⟨b, 4, none⟩) hbl).trans h4
      have e2 := (FB.cell (p := ⟨b, 5, none⟩) hbl).trans h5
      refine wpOp_step rfl (fun K hK => ?_)
      go_simp
      refine hK _ _ ?_
      refine ⟨_, _, _, _, _, _, _, _, _, _, _, _, ga, gb, gc, ca, cb, cc, rfl, ?_, ?_, ?_, ?_, ?_, ?_, ?_, ?_, ?_, ?_, ?_, ?_, ?_, ?_, ?_, ?_, ?_, ?_, ?_⟩
      · exact fun h => F0 (lm _ (by decide) h)
      · exact fun h => F1 (lm _ (by decide) h)
      · exact fun h => F2 (lm _ (by decide) h)
      · exact fun _ => rfl
      · exact fun h => F4 (lm _ (by decide) h)
      · exact fun h => F5 (lm _ (by decide) h)
      · exact fun h => F6 (lm _ (by decide) h)
      · exact fun h => F7 (lm _ (by decide) h)
      · exact fun h => F14 (lm _ (by decide) h)
      · exact fun h => ⟨(F8 (lm _ (by decide) h)).1, (F8 (lm _ (by decide) h)).2.1, (F8 (lm _ (by decide) h)).2.2.1, (F8 (lm _ (by decide) h)).2.2.2.1, fun k => (F8 (lm _ (by decide) h)).2.2.2.2 (lm _ (by decide) k)⟩
      · exact fun h => ⟨(F9 (lm _ (by decide) h)).1, (F9 (lm _ (by decide) h)).2.1, (F9 (lm _ (by decide) h)).2.2.1, (F9 (lm _ (by decide) h)).2.2.2.1, fun k => (F9 (lm _ (by decide) h)).2.2.2.2 (lm _ (by decide) k)⟩
      · exact fun h => ⟨(F10 (lm _ (by decide) h)).1, (F10 (lm _ (by decide) h)).2.1, (F10 (lm _ (by decide) h)).2.2.1, (F10 (lm _ (by decide) h)).2.2.2.1, fun k => (F10 (lm _ (by decide) h)).2.2.2.2 (lm _ (by decide) k)⟩
      · exact fun h k => N89 (lm _ (by decide) h) (lm _ (by decide) k)
      · exact fun h k => N8t (lm _ (by decide) h) (lm _ (by decide) k)
      · exact fun h k => N9t (lm _ (by decide) h) (lm _ (by decide) k)
      · exact fun h => la (G11 (lm _ (by decide) h))
      · exact fun h => la (G12 (lm _ (by decide) h))
      · exact fun h => la (G13 (lm _ (by decide) h))
      · exact FB
    · simp only [List.getElem?_toArray, List.getElem?_cons_zero, List.getElem?_cons_succ, Option.some.injEq] at ho
      subst ho
      refine wpOp_step rfl (fun K hK => ?_)
      go_simp
      refine hK _ _ ?_
      refine ⟨_, _, _, _, _, _, _, _, _, _, _, _, ga, gb, gc, ca, cb, cc, rfl, ?_, ?_, ?_, ?_, ?_, ?_, ?_, ?_, ?_, ?_, ?_, ?_, ?_, ?_, ?_, ?_, ?_, ?_, ?_⟩
      · exact fun h => F0 (lm _ (by decide) h)
      · exact fun h => F1 (lm _ (by decide) h)
      · exact fun h => F2 (lm _ (by decide) h)
      · exact fun h => F3 (lm _ (by decide) h)
      · exact fun _ => rfl
      · exact fun h => F5 (lm _ (by decide) h)
      · exact fun h => F6 (lm _ (by decide) h)
      · exact fun h => F7 (lm _ (by decide) h)
      · exact fun h => F14 (lm _ (by decide) h)
      · exact fun h => ⟨(F8 (lm _ (by decide) h)).1, (F8 (lm _ (by decide) h)).2.1, (F8 (lm _ (by decide) h)).2.2.1, (F8 (lm _ (by decide) h)).2.2.2.1, fun k => (F8 (lm _ (by decide) h)).2.2.2.2 (lm _ (by decide) k)⟩
      · exact fun h => ⟨(F9 (lm _ (by decide) h)).1, (F9 (lm _ (by decide) h)).2.1, (F9 (lm _ (by decide) h)).2.2.1, (F9 (lm _ (by decide) h)).2.2.2.1, fun k => (F9 (lm _ (by decide) h)).2.2.2.2 (lm _ (by decide) k)⟩
      · exact fun h => ⟨(F10 (lm _ (by decide) h)).1, (F10 (lm _ (by decide) h)).2.1, (F10 (lm _ (by decide) h)).2.2.1, (F10 (lm _ (by decide) h)).2.2.2.1, fun k => (F10 (lm _ (by decide) h)).2.2.2.2 (lm _ (by decide) k)⟩
      · exact fun h k => N89 (lm _ (by decide) h) (lm _ (by decide) k)
      · exact fun h k => N8t (lm _ (by decide) h) (lm _ (by decide) k)
      · exact fun h k => N9t (lm _ (by decide) h) (lm _ (by decide) k)
      · exact fun h => la (G11 (lm _ (by decide) h))
      · exact fun h => la (G12 (lm _ (by decide) h))
      · exact fun h => la (G13 (lm _ (by decide) h))
      · exact FB
    · simp only [List.getElem?_toArray, List.getElem?_cons_zero, List.getElem?_cons_succ, Option.some.injEq] at ho
      subst ho
      have L4 := hdp ⟨4, .data⟩ (by simp) rfl
      obtain rfl := F4 L4
      have e0 := (FB.cell (p := ⟨b, 6, none⟩) hbl).trans h6
      have e1 := (FB.cell (p := ⟨b, 7, none⟩) hbl).trans h7
      have e2 := (FB.cell (p := ⟨b, 8, none⟩) hbl).trans h8
      refine wpOp_step rfl (fun K hK => ?_)
      go_simp
      refine hK _ _ ?_
      refine ⟨_, _, _, _, _, _, _, _, _, _, _, _, ga, gb, gc, ca, cb, cc, rfl, ?_, ?_, ?_, ?_, ?_, ?_, ?_, ?_, ?_, ?_, ?_, ?_, ?_, ?_, ?_, ?_, ?_, ?_, ?_⟩
      · exact fun h => F0 (lm _ (by decide) h)
      · exact fun h => F1 (lm _ (by decide) h)
      · exact fun h => F2 (lm _ (by decide) h)
      · exact fun h => F3 (lm _ (by decide) h)
      · exact fun h => F4 (lm _ (by decide) h)
      · exact fun _ => rfl
      · exact fun h => F6 (lm _ (by decide) h)
      · exact fun h => F7 (lm _ (by decide) h)
      · exact fun h => F14 (lm _ (by decide) h)
      · exact fun h => ⟨(F8 (lm _ (by decide) h)).1, (F8 (lm _ (by decide) h)).2.1, (F8 (lm _ (by decide) h)).2.2.1, (F8 (lm _ (by decide) h)).2.2.2.1, fun k => (F8 (lm _ (by decide) h)).2.2.2.2 (lm _ (by decide) k)⟩
      · exact fun h => ⟨(F9 (lm _ (by decide) h)).1, (F9 (lm _ (by decide) h)).2.1, (F9 (lm _ (by decide) h)).2.2.1, (F9 (lm _ (by decide) h)).2.2.2.1, fun k => (F9 (lm _ (by decide) h)).2.2.2.2 (lm _ (by decide) k)⟩
      · exact fun h => ⟨(F10 (lm _ (by decide) h)).1, (F10 (lm _ (by decide) h)).2.1, (F10 (lm _ (by decide) h)).2.2.1, (F10 (lm _ (by decide) h)).2.2.2.1, fun k => (F10 (lm _ (by decide) h)).2.2.2.2 (lm _ (by decide) k)⟩
      · exact fun h k => N89 (lm _ (by decide) h) (lm _ (by decide) k)
      · exact fun h k => N8t (lm _ (by decide) h) (lm _ (by decide) k)
      · exact fun h k => N9t (lm _ (by decide) h) (lm _ (by decide) k)
      · exact fun h => la (G11 (lm _ (by decide) h))
      · exact fun h => la (G12 (lm _ (by decide) h))
      · exact fun h => la (G13 (lm _ (by decide) h))
      · exact FB
    · simp only [List.getElem?_toArray, List.getElem?_cons_zero, List.getElem?_cons_succ, Option.some.injEq] at ho
      subst ho
      refine wpOp_step rfl (fun K hK => ?_)
      go_simp
      refine hK _ _ ?_
      refine ⟨_, _, _, _, _, _, _, _, _, _, _, _, ga, gb, gc, ca, cb, cc, rfl, ?_, ?_, ?_, ?_, ?_, ?_, ?_, ?_, ?_, ?_, ?_, ?_, ?_, ?_, ?_, ?_, ?_, ?_, ?_⟩
      · exact fun h => F0 (lm _ (by decide) h)
      · exact fun h => F1 (lm _ (by decide) h)
      · exact fun h => F2 (lm _ (by decide) h)
      · exact fun h => F3 (lm _ (by decide) h)
      · exact fun h => F4 (lm _ (by decide) h)
      · exact fun h => F5 (lm _ (by decide) h)
      · exact fun _ => rfl
      · exact fun h => F7 (lm _ (by decide) h)
      · exact fun h => F14 (lm _ (by decide) h)
      · exact fun h => ⟨(F8 (lm _ (by decide) h)).1, (F8 (lm _ (by decide) h)).2.1, (F8 (lm _ (by decide) h)).2.2.1, (F8 (lm _ (by decide) h)).2.2.2.1, fun k => (F8 (lm _ (by decide) h)).2.2.2.2 (lm _ (by decide) k)⟩
      · exact fun h => ⟨(F9 (lm _ (by decide) h)).1, (F9 (lm _ (by decide) h)).2.1, (F9 (lm _ (by decide) h)).2.2.1, (F9 (lm _ (by decide) h)).2.2.2.1, fun k => (F9 (lm _ (by decide) h)).2.2.2.2 (lm _ (by decide) k)⟩
      · exact fun h => ⟨(F10 (lm _ (by decide) h)).1, (F10 (lm _ (by decide) h)).2.1, (F10 (lm _ (by decide) h)).2.2.1, (F10 (lm _ (by decide) h)).2.2.2.1, fun k => (F10 (lm _ (by decide) h)).2.2.2.2 (lm _ (by decide) k)⟩
      · exact fun h k => N89 (lm _ (by decide) h) (lm _ (by decide) k)
      · exact fun h k => N8t (lm _ (by decide) h) (lm _ (by decide) k)
      · exact fun h k => N9t (lm _ (by decide) h) (lm _ (by decide) k)
      · exact fun h => la (G11 (lm _ (by decide) h))
      · exact fun h => la (G12 (lm _ (by decide) h))
      · exact fun h => la (G13 (lm _ (by decide) h))
      · exact FB
    · simp only [List.getElem?_toArray, List.getElem?_cons_zero, List.getElem?_cons_succ, Option.some.injEq] at ho
      subst ho
      have L6 := hdp ⟨6, .data⟩ (by simp) rfl
      obtain rfl := F6 L6
      have e0 := (FB.cell (p := ⟨b, 9, none⟩) hbl).trans h9
      refine wpOp_step rfl (fun K hK => ?_)
      go_simp
      refine hK _ _ ?_
      refine ⟨_, _, _, _, _, _, _, _, _, _, _, _, ga, gb, gc, ca, cb, cc, rfl, ?_, ?_, ?_, ?_, ?_, ?_, ?_, ?_, ?_, ?_, ?_, ?_, ?_, ?_, ?_, ?_, ?_, ?_, ?_⟩
      · exact fun h => F0 (lm _ (by decide) h)
      · exact fun h => F1 (lm _ (by decide) h)
      · exact fun h => F2 (lm _ (by decide) h)
      · exact fun h => F3 (lm _ (by decide) h)
      · exact fun h => F4 (lm _ (by decide) h)
      · exact fun h => F5 (lm _ (by decide) h)
      · exact fun h => F6 (lm _ (by decide) h)
      · exact fun _ => rfl
      · exact fun h => F14 (lm _ (by decide) h)
      · exact fun h => ⟨(F8 (lm _ (by decide) h)).1, (F8 (lm _ (by decide) h)).2.1, (F8 (lm _ (by decide) h)).2.2.1, (F8 (lm _ (by decide) h)).2.2.2.1, fun k => (F8 (lm _ (by decide) h)).2.2.2.2 (lm _ (by decide) k)⟩
      · exact fun h => ⟨(F9 (lm _ (by decide) h)).1, (F9 (lm _ (by decide) h)).2.1, (F9 (lm _ (by decide) h)).2.2.1, (F9 (lm _ (by decide) h)).2.2.2.1, fun k => (F9 (lm _ (by decide) h)).2.2.2.2 (lm _ (by decide) k)⟩
      · exact fun h => ⟨(F10 (lm _ (by decide) h)).1, (F10 (lm _ (by decide) h)).2.1, (F10 (lm _ (by decide) h)).2.2.1, (F10 (lm _ (by decide) h)).2.2.2.1, fun k => (F10 (lm _ (by decide) h)).2.2.2.2 (lm _ (by decide) k)⟩
      · exact fun h k => N89 (lm _ (by decide) h) (lm _ (by decide) k)
      · exact fun h k => N8t (lm _ (by decide) h) (lm _ (by decide) k)
      · exact fun h k => N9t (lm _ (by decide) h) (lm _ (by decide) k)
      · exact fun h => la (G11 (lm _ (by decide) h))
      · exact fun h => la (G12 (lm _ (by decide) h))
      · exact fun h => la (G13 (lm _ (by decide) h))
      · exact FB
    · simp only [List.getElem?_toArray, List.getElem?_cons_zero, List.getElem?_cons_succ, Option.some.injEq] at ho
      subst ho
      refine wpOp_step rfl (fun K hK => ?_)
      go_simp
      refine hK _ _ ?_
      refine ⟨_, _, _, _, _, _, _, _, _, _, _, _, w.heap.size, gb, gc, #[.int .i64 0, .string ⟨#[]⟩, .int .i64 0], cb, cc, rfl, ?_, ?_, ?_, ?_, ?_, ?_, ?_, ?_, ?_, ?_, ?_, ?_, ?_, ?_, ?_, ?_, ?_, ?_, ?_⟩
      · exact fun h => F0 (lm _ (by decide) h)
      · exact fun h => F1 (lm _ (by decide) h)
      · exact fun h => F2 (lm _ (by decide) h)
      · exact fun h => F3 (lm _ (by decide) h)
      · exact fun h => F4 (lm _ (by decide) h)
      · exact fun h => F5 (lm _ (by decide) h)
      · exact fun h => F6 (lm _ (by decide) h)
      · exact fun h => F7 (lm _ (by decide) h)
      · exact fun h => F14 (lm _ (by decide) h)
      · exact fun _ => ⟨rfl, FB.size, Blk.new w 26 _, rfl, fun h => absurd (G11 (lm _ (by decide) h)) lno⟩
      · exact fun h => ⟨(F9 (lm _ (by decide) h)).1, (F9 (lm _ (by decide) h)).2.1, (F9 (lm _ (by decide) h)).2.2.1.alloc _, (F9 (lm _ (by decide) h)).2.2.2.1, fun k => (F9 (lm _ (by decide) h)).2.2.2.2 (lm _ (by decide) k)⟩
      · exact fun h => ⟨(F10 (lm _ (by decide) h)).1, (F10 (lm _ (by decide) h)).2.1, (F10 (lm _ (by decide) h)).2.2.1.alloc _, (F10 (lm _ (by decide) h)).2.2.2.1, fun k => (F10 (lm _ (by decide) h)).2.2.2.2 (lm _ (by decide) k)⟩
      · exact fun _ k => Nat.ne_of_gt ((F9 (lm _ (by decide) k)).2.2.1).lt
      · exact fun _ k => Nat.ne_of_gt ((F10 (lm _ (by decide) k)).2.2.1).lt
      · exact fun h k => N9t (lm _ (by decide) h) (lm _ (by decide) k)
      · exact fun _ => lself hnl
      · exact fun h => la (G12 (lm _ (by decide) h))
      · exact fun h => la (G13 (lm _ (by decide) h))
      · exact ba FB
    · simp only [List.getElem?_toArray, List.getElem?_cons_zero, List.getElem?_cons_succ, Option.some.injEq] at ho
      subst ho
      refine wpOp_step rfl (fun K hK => ?_)
      go_simp
      refine hK _ _ ?_
      refine ⟨_, _, _, _, _, _, _, _, _, _, _, _, ga, w.heap.size, gc, ca, #[.int .i64 0, .string ⟨#[]⟩, .int .i64 0], cc, rfl, ?_, ?_, ?_, ?_, ?_, ?_, ?_, ?_, ?_, ?_, ?_, ?_, ?_, ?_, ?_, ?_, ?_, ?_, ?_⟩
      · exact fun h => F0 (lm _ (by decide) h)
      · exact fun h => F1 (lm _ (by decide) h)
      · exact fun h => F2 (lm _ (by decide) h)
      · exact fun h => F3 (lm _ (by decide) h)
      · exact fun h => F4 (lm _ (by decide) h)
      · exact fun h => F5 (lm _ (by decide) h)
      · exact fun h => F6 (lm _ (by decide) h)
      · exact fun h => F7 (lm _ (by decide) h)
      · exact fun h => F14 (lm _ (by decide) h)
      · exact fun h => ⟨(F8 (lm _ (by decide) h)).1, (F8 (lm _ (by decide) h)).2.1, (F8 (lm _ (by decide) h)).2.2.1.alloc _, (F8 (lm _ (by decide) h)).2.2.2.1, fun k => (F8 (lm _ (by decide) h)).2.2.2.2 (lm _ (by decide) k)⟩
      · exact fun _ => ⟨rfl, FB.size, Blk.new w 26 _, rfl, fun h => absurd (G12 (lm _ (by decide) h)) lno⟩
      · exact fun h => ⟨(F10 (lm _ (by decide) h)).1, (F10 (lm _ (by decide) h)).2.1, (F10 (lm _ (by decide) h)).2.2.1.alloc _, (F10 (lm _ (by decide) h)).2.2.2.1, fun k => (F10 (lm _ (by decide) h)).2.2.2.2 (lm _ (by decide) k)⟩
      · exact fun h _ => Nat.ne_of_lt ((F8 (lm _ (by decide) h)).2.2.1).lt
      · exact fun h k => N8t (lm _ (by decide) h) (lm _ (by decide) k)
      · exact fun _ k => Nat.ne_of_gt ((F10 (lm _ (by decide) k)).2.2.1).lt
      · exact fun h => la (G11 (lm _ (by decide) h))
      · exact fun _ => lself hnl
      · exact fun h => la (G13 (lm _ (by decide) h))
      · exact ba FB
    · simp only [List.getElem?_toArray, List.getElem?_cons_zero, List.getElem?_cons_succ, Option.some.injEq] at ho
      subst ho
      refine wpOp_step rfl (fun K hK => ?_)
      go_simp
      refine hK _ _ ?_
      refine ⟨_, _, _, _, _, _, _, _, _, _, _, _, ga, gb, w.heap.size, ca, cb, #[.int .i64 0, .string ⟨#[]⟩, .int .i64 0], rfl, ?_, ?_, ?_, ?_, ?_, ?_, ?_, ?_, ?_, ?_, ?_, ?_, ?_, ?_, ?_, ?_, ?_, ?_, ?_⟩
      · exact fun h => F0 (lm _ (by decide) h)
      · exact fun h => F1 (lm _ (by decide) h)
      · exact fun h => F2 (lm _ (by decide) h)
      · exact fun h => F3 (lm _ (by decide) h)
      · exact fun h => F4 (lm _ (by decide) h)
      · exact fun h => F5 (lm _ (by decide) h)
      · exact fun h => F6 (lm _ (by decide) h)
      · exact fun h => F7 (lm _ (by decide) h)
      · exact fun h => F14 (lm _ (by decide) h)
      · exact fun h => ⟨(F8 (lm _ (by decide) h)).1, (F8 (lm _ (by decide) h)).2.1, (F8 (lm _ (by decide) h)).2.2.1.alloc _, (F8 (lm _ (by decide) h)).2.2.2.1, fun k => (F8 (lm _ (by decide) h)).2.2.2.2 (lm _ (by decide) k)⟩
      · exact fun h => ⟨(F9 (lm _ (by decide) h)).1, (F9 (lm _ (by decide) h)).2.1, (F9 (lm _ (by decide) h)).2.2.1.alloc _, (F9 (lm _ (by decide) h)).2.2.2.1, fun k => (F9 (lm _ (by decide) h)).2.2.2.2 (lm _ (by decide) k)⟩
      · exact fun _ => ⟨rfl, FB.size, Blk.new w 26 _, rfl, fun h => absurd (G13 (lm _ (by decide) h)) lno⟩
      · exact fun h k => N89 (lm _ (by decide) h) (lm _ (by decide) k)
      · exact fun h _ => Nat.ne_of_lt ((F8 (lm _ (by decide) h)).2.2.1).lt
      · exact fun h _ => Nat.ne_of_lt ((F9 (lm _ (by decide) h)).2.2.1).lt
      · exact fun h => la (G11 (lm _ (by decide) h))
      · exact fun h => la (G12 (lm _ (by decide) h))
      · exact fun _ => lself hnl
      · exact ba FB
    · simp only [List.getElem?_toArray, List.getElem?_cons_zero, List.getElem?_cons_succ, Option.some.injEq] at ho
      subst ho
      have L8 := hdp ⟨8, .data⟩ (by simp) rfl
      have L1 := hdp ⟨1, .data⟩ (by simp) rfl
      obtain ⟨rfl, hgB, hBlk, hsz, _⟩ := F8 L8
      obtain rfl := F1 L1
      obtain ⟨u0, u1, u2, rfl⟩ := three_of hsz
      have e0 : w.cell? ⟨ga, 0, none⟩ = some u0 := hBlk.cell 0
      have e1 : w.cell? ⟨ga, 1, none⟩ = some u1 := hBlk.cell 1
      have e2 : w.cell? ⟨ga, 2, none⟩ = some u2 := hBlk.cell 2
      have f0 : w.frozen? ⟨ga, 0, none⟩ = false := hBlk.frozen 0
      have f1 : w.frozen? ⟨ga, 1, none⟩ = false := hBlk.frozen 1
      have f2 : w.frozen? ⟨ga, 2, none⟩ = false := hBlk.frozen 2
      have HBK := Lib.hid hBlk
      clear hBlk
      refine wpOp_step rfl (fun K hK => ?_)
      go_simp
      refine hK _ _ ?_
      have hB5 : Blk (((w.setCell ⟨ga, 0, none⟩ (.int .i64 xi)).setCell ⟨ga, 1, none⟩ (.string xn)).setCell ⟨ga, 2, none⟩ (.int .i64 xo)) ga 26 #[.int .i64 xi, .string xn, .int .i64 xo] := ((HBK.out.set_ 0 _).set_ 1 _).set_ 2 _
      have hBW : Below W.heap.size W (((w.setCell ⟨ga, 0, none⟩ (.int .i64 xi)).setCell ⟨ga, 1, none⟩ (.string xn)).setCell ⟨ga, 2, none⟩ (.int .i64 xo)) := ((FB.setCell (p := ⟨ga, 0, none⟩) hgB _).setCell (p := ⟨ga, 1, none⟩) hgB _).setCell (p := ⟨ga, 2, none⟩) hgB _
      refine ⟨_, _, _, _, _, _, _, _, _, _, _, _, ga, gb, gc, #[.int .i64 xi, .string xn, .int .i64 xo], cb, cc, rfl, ?_, ?_, ?_, ?_, ?_, ?_, ?_, ?_, ?_, ?_, ?_, ?_, ?_, ?_, ?_, ?_, ?_, ?_, ?_⟩
      · exact fun h => F0 (lm _ (by decide) h)
      · exact fun h => F1 (lm _ (by decide) h)
      · exact fun h => F2 (lm _ (by decide) h)
      · exact fun h => F3 (lm _ (by decide) h)
      · exact fun h => F4 (lm _ (by decide) h)
      · exact fun h => F5 (lm _ (by decide) h)
      · exact fun h => F6 (lm _ (by decide) h)
      · exact fun h => F7 (lm _ (by decide) h)
      · exact fun h => F14 (lm _ (by decide) h)
      · exact fun _ => ⟨rfl, hgB, hB5, rfl, fun _ => rfl⟩
      · exact fun h => ⟨(F9 (lm _ (by decide) h)).1, (F9 (lm _ (by decide) h)).2.1, (((F9 (lm _ (by decide) h)).2.2.1.far (p := ⟨ga, 0, none⟩) (fun e => N89 L8 (lm _ (by decide) h) e.symm) _).far (p := ⟨ga, 1, none⟩) (fun e => N89 L8 (lm _ (by decide) h) e.symm) _).far (p := ⟨ga, 2, none⟩) (fun e => N89 L8 (lm _ (by decide) h) e.symm) _, (F9 (lm _ (by decide) h)).2.2.2.1, fun k => (F9 (lm _ (by decide) h)).2.2.2.2 (lm _ (by decide) k)⟩
      · exact fun h => ⟨(F10 (lm _ (by decide) h)).1, (F10 (lm _ (by decide) h)).2.1, (((F10 (lm _ (by decide) h)).2.2.1.far (p := ⟨ga, 0, none⟩) (fun e => N8t L8 (lm _ (by decide) h) e.symm) _).far (p := ⟨ga, 1, none⟩) (fun e => N8t L8 (lm _ (by decide) h) e.symm) _).far (p := ⟨ga, 2, none⟩) (fun e => N8t L8 (lm _ (by decide) h) e.symm) _, (F10 (lm _ (by decide) h)).2.2.2.1, fun k => (F10 (lm _ (by decide) h)).2.2.2.2 (lm _ (by decide) k)⟩
      · exact fun h k => N89 (lm _ (by decide) h) (lm _ (by decide) k)
      · exact fun h k => N8t (lm _ (by decide) h) (lm _ (by decide) k)
      · exact fun h k => N9t (lm _ (by decide) h) (lm _ (by decide) k)
      · exact fun _ => la L8
      · exact fun h => la (G12 (lm _ (by decide) h))
      · exact fun h => la (G13 (lm _ (by decide) h))
      · exact hBW
    · simp only [List.getElem?_toArray, List.getElem?_cons_zero, List.getElem?_cons_succ, Option.some.injEq] at ho
      subst ho
      have L9 := hdp ⟨9, .data⟩ (by simp) rfl
      have L3 := hdp ⟨3, .data⟩ (by simp) rfl
      obtain ⟨rfl, hgB, hBlk, hsz, _⟩ := F9 L9
      obtain rfl := F3 L3
      obtain ⟨u0, u1, u2, rfl⟩ := three_of hsz
      have e0 : w.cell? ⟨gb, 0, none⟩ = some u0 := hBlk.cell 0
      have e1 : w.cell? ⟨gb, 1, none⟩ = some u1 := hBlk.cell 1
      have e2 : w.cell? ⟨gb, 2, none⟩ = some u2 := hBlk.cell 2
      have f0 : w.frozen? ⟨gb, 0, none⟩ = false := hBlk.frozen 0
      have f1 : w.frozen? ⟨gb, 1, none⟩ = false := hBlk.frozen 1
      have f2 : w.frozen? ⟨gb, 2, none⟩ = false := hBlk.frozen 2
      have HBK := Lib.hid hBlk
      clear hBlk
      refine wpOp_step rfl (fun K hK => ?_)
      go_simp
      refine hK _ _ ?_
      have hB5 : Blk (((w.setCell ⟨gb, 0, none⟩ (.int .i64 yi)).setCell ⟨gb, 1, none⟩ (.string yn)).setCell ⟨gb, 2, none⟩ (.int .i64 yo)) gb 26 #[.int .i64 yi, .string yn, .int .i64 yo] := ((HBK.out.set_ 0 _).set_ 1 _).set_ 2 _
      have hBW : Below W.heap.size W (((w.setCell ⟨gb, 0, none⟩ (.int .i64 yi)).setCell ⟨gb, 1, none⟩ (.string yn)).setCell ⟨gb, 2, none⟩ (.int .i64 yo)) := ((FB.setCell (p := ⟨gb, 0, none⟩) hgB _).setCell (p := ⟨gb, 1, none⟩) hgB _).setCell (p := ⟨gb, 2, none⟩) hgB _
      refine ⟨_, _, _, _, _, _, _, _, _, _, _, _, ga, gb, gc, ca, #[.int .i64 yi, .string yn, .int .i64 yo], cc, rfl, ?_, ?_, ?_, ?_, ?_, ?_, ?_, ?_, ?_, ?_, ?_, ?_, ?_, ?_, ?_, ?_, ?_, ?_, ?_⟩
      · exact fun h => F0 (lm _ (by decide) h)
      · exact fun h => F1 (lm _ (by decide) h)
      · exact fun h => F2 (lm _ (by decide) h)
      · exact fun h => F3 (lm _ (by decide) h)
      · exact fun h => F4 (lm _ (by decide) h)
      · exact fun h => F5 (lm _ (by decide) h)
      · exact fun h => F6 (lm _ (by decide) h)
      · exact fun h => F7 (lm _ (by decide) h)
      · exact fun h => F14 (lm _ (by decide) h)
      · exact fun h => ⟨(F8 (lm _ (by decide) h)).1, (F8 (lm _ (by decide) h)).2.1, (((F8 (lm _ (by decide) h)).2.2.1.far (p := ⟨gb, 0, none⟩) (fun e => N89 (lm _ (by decide) h) L9 e) _).far (p := ⟨gb, 1, none⟩) (fun e => N89 (lm _ (by decide) h) L9 e) _).far (p := ⟨gb, 2, none⟩) (fun e => N89 (lm _ (by decide) h) L9 e) _, (F8 (lm _ (by decide) h)).2.2.2.1, fun k => (F8 (lm _ (by decide) h)).2.2.2.2 (lm _ (by decide) k)⟩
      · exact fun _ => ⟨rfl, hgB, hB5, rfl, fun _ => rfl⟩
      · exact fun h => ⟨(F10 (lm _ (by decide) h)).1, (F10 (lm _ (by decide) h)).2.1, (((F10 (lm _ (by decide) h)).2.2.1.far (p := ⟨gb, 0, none⟩) (fun e => N9t L9 (lm _ (by decide) h) e.symm) _).far (p := ⟨gb, 1, none⟩) (fun e => N9t L9 (lm _ (by decide) h) e.symm) _).far (p := ⟨gb, 2, none⟩) (fun e => N9t L9 (lm _ (by decide) h) e.symm) _, (F10 (lm _ (by decide) h)).2.2.2.1, fun k => (F10 (lm _ (by decide) h)).2.2.2.2 (lm _ (by decide) k)⟩
      · exact fun h k => N89 (lm _ (by decide) h) (lm _ (by decide) k)
      · exact fun h k => N8t (lm _ (by decide) h) (lm _ (by decide) k)
      · exact fun h k => N9t (lm _ (by decide) h) (lm _ (by decide) k)
      · exact fun h => la (G11 (lm _ (by decide) h))
      · exact fun _ => la L9
      · exact fun h => la (G13 (lm _ (by decide) h))
      · exact hBW
    · simp only [List.getElem?_toArray, List.getElem?_cons_zero, List.getElem?_cons_succ, Option.some.injEq] at ho
      subst ho
      have L10 := hdp ⟨10, .data⟩ (by simp) rfl
      have L5 := hdp ⟨5, .data⟩ (by simp) rfl
      obtain ⟨rfl, hgB, hBlk, hsz, _⟩ := F10 L10
      obtain rfl := F5 L5
      obtain ⟨u0, u1, u2, rfl⟩ := three_of hsz
      have e0 : w.cell? ⟨gc, 0, none⟩ = some u0 := hBlk.cell 0
      have e1 : w.cell? ⟨gc, 1, none⟩ = some u1 := hBlk.cell 1
      have e2 : w.cell? ⟨gc, 2, none⟩ = some u2 := hBlk.cell 2
      have f0 : w.frozen? ⟨gc, 0, none⟩ = false := hBlk.frozen 0
      have f1 : w.frozen? ⟨gc, 1, none⟩ = false := hBlk.frozen 1
      have f2 : w.frozen? ⟨gc, 2, none⟩ = false := hBlk.frozen 2
      have HBK := Lib.hid hBlk
      clear hBlk
      refine wpOp_step rfl (fun K hK => ?_)
      go_simp
      refine hK _ _ ?_
      have hB5 : Blk (((w.setCell ⟨gc, 0, none⟩ (.int .i64 zi)).setCell ⟨gc, 1, none⟩ (.string zn)).setCell ⟨gc, 2, none⟩ (.int .i64 zo)) gc 26 #[.int .i64 zi, .string zn, .int .i64 zo] := ((HBK.out.set_ 0 _).set_ 1 _).set_ 2 _
      have hBW : Below W.heap.size W (((w.setCell ⟨gc, 0, none⟩ (.int .i64 zi)).setCell ⟨gc, 1, none⟩ (.string zn)).setCell ⟨gc, 2, none⟩ (.int .i64 zo)) := ((FB.setCell (p := ⟨gc, 0, none⟩) hgB _).setCell (p := ⟨gc, 1, none⟩) hgB _).setCell (p := ⟨gc, 2, none⟩) hgB _
      refine ⟨_, _, _, _, _, _, _, _, _, _, _, _, ga, gb, gc, ca, cb, #[.int .i64 zi, .string zn, .int .i64 zo], rfl, ?_, ?_, ?_, ?_, ?_, ?_, ?_, ?_, ?_, ?_, ?_, ?_, ?_, ?_, ?_, ?_, ?_, ?_, ?_⟩
      · exact fun h => F0 (lm _ (by decide) h)
      · exact fun h => F1 (lm _ (by decide) h)
      · exact fun h => F2 (lm _ (by decide) h)
      · exact fun h => F3 (lm _ (by decide) h)
      · exact fun h => F4 (lm _ (by decide) h)
      · exact fun h => F5 (lm _ (by decide) h)
      · exact fun h => F6 (lm _ (by decide) h)
      · exact fun h => F7 (lm _ (by decide) h)
      · exact fun h => F14 (lm _ (by decide) h)
      · exact fun h => ⟨(F8 (lm _ (by decide) h)).1, (F8 (lm _ (by decide) h)).2.1, (((F8 (lm _ (by decide) h)).2.2.1.far (p := ⟨gc, 0, none⟩) (fun e => N8t (lm _ (by decide) h) L10 e) _).far (p := ⟨gc, 1, none⟩) (fun e => N8t (lm _ (by decide) h) L10 e) _).far (p := ⟨gc, 2, none⟩) (fun e => N8t (lm _ (by decide) h) L10 e) _, (F8 (lm _ (by decide) h)).2.2.2.1, fun k => (F8 (lm _ (by decide) h)).2.2.2.2 (lm _ (by decide) k)⟩
      · exact fun h => ⟨(F9 (lm _ (by decide) h)).1, (F9 (lm _ (by decide) h)).2.1, (((F9 (lm _ (by decide) h)).2.2.1.far (p := ⟨gc, 0, none⟩) (fun e => N9t (lm _ (by decide) h) L10 e) _).far (p := ⟨gc, 1, none⟩) (fun e => N9t (lm _ (by decide) h) L10 e) _).far (p := ⟨gc, 2, none⟩) (fun e => N9t (lm _ (by decide) h) L10 e) _, (F9 (lm _ (by decide) h)).2.2.2.1, fun k => (F9 (lm _ (by decide) h)).2.2.2.2 (lm _ (by decide) k)⟩
      · exact fun _ => ⟨rfl, hgB, hB5, rfl, fun _ => rfl⟩
      · exact fun h k => N89 (lm _ (by decide) h) (lm _ (by decide) k)
      · exact fun h k => N8t (lm _ (by decide) h) (lm _ (by decide) k)
      · exact fun h k => N9t (lm _ (by decide) h) (lm _ (by decide) k)
      · exact fun h => la (G11 (lm _ (by decide) h))
      · exact fun h => la (G12 (lm _ (by decide) h))
      · exact fun _ => la L10
      · exact hBW
    · simp only [List.getElem?_toArray, List.getElem?_cons_zero, List.getElem?_cons_succ, Option.some.injEq] at ho
      subst ho
      have L7 := hdp ⟨7, .data⟩ (by simp) rfl
      obtain rfl := F7 L7
      refine wpOp_step rfl (fun K hK => ?_)
      go_simp
      refine hK _ _ ?_
      refine ⟨_, _, _, _, _, _, _, _, _, _, _, _, ga, gb, gc, ca, cb, cc, rfl, ?_, ?_, ?_, ?_, ?_, ?_, ?_, ?_, ?_, ?_, ?_, ?_, ?_, ?_, ?_, ?_, ?_, ?_, ?_⟩
      · exact fun h => F0 (lm _ (by decide) h)
      · exact fun h => F1 (lm _ (by decide) h)
      · exact fun h => F2 (lm _ (by decide) h)
      · exact fun h => F3 (lm _ (by decide) h)
      · exact fun h => F4 (lm _ (by decide) h)
      · exact fun h => F5 (lm _ (by decide) h)
      · exact fun h => F6 (lm _ (by decide) h)
      · exact fun h => F7 (lm _ (by decide) h)
      · exact fun _ => rfl
      · exact fun h => ⟨(F8 (lm _ (by decide) h)).1, (F8 (lm _ (by decide) h)).2.1, (F8 (lm _ (by decide) h)).2.2.1, (F8 (lm _ (by decide) h)).2.2.2.1, fun k => (F8 (lm _ (by decide) h)).2.2.2.2 (lm _ (by decide) k)⟩
      · exact fun h => ⟨(F9 (lm _ (by decide) h)).1, (F9 (lm _ (by decide) h)).2.1, (F9 (lm _ (by decide) h)).2.2.1, (F9 (lm _ (by decide) h)).2.2.2.1, fun k => (F9 (lm _ (by decide) h)).2.2.2.2 (lm _ (by decide) k)⟩
      · exact fun h => ⟨(F10 (lm _ (by decide) h)).1, (F10 (lm _ (by decide) h)).2.1, (F10 (lm _ (by decide) h)).2.2.1, (F10 (lm _ (by decide) h)).2.2.2.1, fun k => (F10 (lm _ (by decide) h)).2.2.2.2 (lm _ (by decide) k)⟩
      · exact fun h k => N89 (lm _ (by decide) h) (lm _ (by decide) k)
      · exact fun h k => N8t (lm _ (by decide) h) (lm _ (by decide) k)
      · exact fun h k => N9t (lm _ (by decide) h) (lm _ (by decide) k)
      · exact fun h => la (G11 (lm _ (by decide) h))
      · exact fun h => la (G12 (lm _ (by decide) h))
      · exact fun h => la (G13 (lm _ (by decide) h))
      · exact FB
  · intro listed A w hall hI
    obtain ⟨s7, s8, s9, s10, s16, s17, s18, s19, s20, s21, s22, s23, ga, gb, gc, ca, cb, cc, rfl, F0, F1, F2, F3, F4, F5, F6, F7, F14, F8, F9, F10, N89, N8t, N9t, _, _, _, FB⟩ := hI
    obtain rfl := F0 (hall 0 (by decide))
    obtain rfl := F1 (hall 1 (by decide))
    obtain rfl := F2 (hall 2 (by decide))
    obtain rfl := F3 (hall 3 (by decide))
    obtain rfl := F4 (hall 4 (by decide))
    obtain rfl := F5 (hall 5 (by decide))
    obtain rfl := F6 (hall 6 (by decide))
    obtain rfl := F7 (hall 7 (by decide))
    obtain rfl := F14 (hall 14 (by decide))
    obtain ⟨rfl, hga, bga, _, ega⟩ := F8 (hall 8 (by decide))
    obtain rfl := ega (hall 11 (by decide))
    obtain ⟨rfl, hgb, bgb, _, egb⟩ := F9 (hall 9 (by decide))
    obtain rfl := egb (hall 12 (by decide))
    obtain ⟨rfl, hgc, bgc, _, egc⟩ := F10 (hall 10 (by decide))
    obtain rfl := egc (hall 13 (by decide))
    exact hQ ga gb gc w (N89 (hall 8 (by decide)) (hall 9 (by decide))) (N8t (hall 8 (by decide)) (hall 10 (by decide))) (N9t (hall 9 (by decide)) (hall 10 (by decide))) hga hgb hgc bga bgb bgc FB
end Go.Proofs.YtjpopmgnhgancaaDoor
