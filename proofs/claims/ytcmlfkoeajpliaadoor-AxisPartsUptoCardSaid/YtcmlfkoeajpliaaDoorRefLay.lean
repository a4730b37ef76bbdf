/- The reference lays trees into a list of nodes. No condition beyond what the theorems state. -/
import Derived.Test.YtcmlfkoeajpliaaDoorGrows
import Derived.Test.YtcmlfkoeajpliaaDoorPieces
namespace Go.Proofs.YtcmlfkoeajpliaaDoor
open Go.RowKit Go.Lib
set_option maxRecDepth 100000
theorem node_info : (Tryd.prog.info? 83).map (fun i => (i.zero, i.size, i.bytes)) = some (some (.agg #[.int .i64 0, .string ⟨#[]⟩, .string ⟨#[]⟩, .slice none 0 0, .slice none 0 0, .int .i64 0]), 6, 96) := by kernel_rfl
/-- A node and its parent. -/
def ndC (x : Tr × Nat) : List Value := x.1.cells ++ [.int .i64 (x.2 : Int)]
def rowN (L : List (Tr × Nat)) : List Value := L.flatMap ndC
theorem rowN_snoc (L : List (Tr × Nat)) (x : Tr × Nat) : rowN (L ++ [x]) = rowN L ++ ndC x := by unfold rowN; simp
theorem rowN_app (L M : List (Tr × Nat)) : rowN (L ++ M) = rowN L ++ rowN M := by unfold rowN; simp
theorem ndC_one (x : Tr × Nat) : ∀ u ∈ ndC x, u.oneCell' = true := by
  intro u hu
  rcases List.mem_append.1 hu with h | h
  · exact cells_one x.1 u h
  · obtain rfl : u = .int .i64 (x.2 : Int) := by simpa using h
    rfl
theorem ndC_len (x : Tr × Nat) : (ndC x).length = 6 := by obtain ⟨⟨⟩, _⟩ := x; rfl
/-- An attribute as a tree. -/
def attrT (q : List UInt8 × List UInt8) : Tr := .mk 3 q.1 q.2 none 0 [] none 0 []
mutual
def Tr.nodes : Tr → Nat → Nat → List (Tr × Nat)
  | .mk k n v A ac ps K kc ks, b, p => (.mk k n v A ac ps K kc ks, p) :: (ps.map (fun q => (attrT q, b + 1)) ++ nodesL ks (b + 1 + ps.length) (b + 1))
def nodesL : List Tr → Nat → Nat → List (Tr × Nat)
  | [], _, _ => []
  | t :: ts, b, p => t.nodes b p ++ nodesL ts (b + t.pl.size) p
end
theorem nodes_len : ∀ (t : Tr) (b p : Nat), (t.nodes b p).length = t.pl.size := by
  intro t
  induction t using Tr.ind with
  | h k n v A ac ps K kc ks ih =>
    intro b p
    have aux : ∀ (L : List Tr), (∀ t ∈ L, ∀ b p : Nat, (t.nodes b p).length = t.pl.size) → ∀ b p : Nat, (nodesL L b p).length = sizeL (plL L) := by
      intro L
      induction L with
      | nil => intro _ b p; rw [nodesL, plL, sizeL]; rfl
      | cons a L ihL =>
        intro h b p
        rw [nodesL, plL, sizeL, List.length_append, h a (.head _), ihL (fun t ht => h t (.tail _ ht))]
    rw [Tr.nodes, Tr.pl, PT.size, List.length_cons, List.length_append, List.length_map, aux ks ih]
    omega
theorem nodesL_app : ∀ (a c : List Tr) (b p : Nat), nodesL (a ++ c) b p = nodesL a b p ++ nodesL c (b + sizeL (plL a)) p
  | [], c, b, p => by rw [nodesL, plL, sizeL]; rfl
  | t :: a, c, b, p => by
    rw [List.cons_append, nodesL, nodesL, nodesL_app a c, List.append_assoc, plL, sizeL, show b + t.pl.size + sizeL (plL a) = b + (t.pl.size + sizeL (plL a)) by omega]
theorem nodesL_len (L : List Tr) (b p : Nat) : (nodesL L b p).length = sizeL (plL L) := by
  induction L generalizing b with
  | nil => rw [nodesL, plL, sizeL]; rfl
  | cons a L ih => rw [nodesL, plL, sizeL, List.length_append, nodes_len, ih]
theorem nodesL_take (ks : List Tr) (i : Nat) (t : Tr) (h : ks[i]? = some t) (b p : Nat) :
    nodesL (ks.take (i + 1)) b p = nodesL (ks.take i) b p ++ t.nodes (b + sizeL (plL (ks.take i))) p := by
  rw [List.take_add_one, h, nodesL_app]
  show _ ++ nodesL [t] _ _ = _
  rw [nodesL, nodesL, List.append_nil]
/-- Beside a row that grows all is as it was. -/
def Along (A : Option Addr) (w : World) (A' : Option Addr) (w' : World) : Prop :=
  w'.os = w.os ∧ w'.tape = w.tape ∧ w'.output = w.output ∧ w.heap.size ≤ w'.heap.size ∧ ∀ b, b < w.heap.size → blkOf A ≠ some b → w'.heap[b]? = w.heap[b]? ∧ blkOf A' ≠ some b
theorem Along.refl (A : Option Addr) (w : World) : Along A w A w := ⟨rfl, rfl, rfl, Nat.le_refl _, fun _ _ h => ⟨rfl, h⟩⟩
theorem Along.trans {A A1 A2 : Option Addr} {w w1 w2 : World} (h : Along A w A1 w1) (k : Along A1 w1 A2 w2) : Along A w A2 w2 :=
  ⟨k.1.trans h.1, k.2.1.trans h.2.1, k.2.2.1.trans h.2.2.1, Nat.le_trans h.2.2.2.1 k.2.2.2.1, fun b hb hA => by
    obtain ⟨h1, h2⟩ := h.2.2.2.2 b hb hA
    obtain ⟨k1, k2⟩ := k.2.2.2.2 b (Nat.lt_of_lt_of_le hb h.2.2.2.1) h2
    exact ⟨k1.trans h1, k2⟩⟩
theorem Along.of_below {A : Option Addr} {w w' : World} (hb : Below w.heap.size w w') : Along A w A w' :=
  ⟨hb.os, hb.tape, hb.output, hb.size, fun b h hA => ⟨hb.block b h, hA⟩⟩
theorem Along.of_grown {A A' : Option Addr} {n n' c c' : Nat} {w w' : World} (hg : w.grownBy w' (Value.slice A n c).ownBlock) (hat : (Value.slice A' n' c').ownBlock = (Value.slice A n c).ownBlock ∨ (Value.slice A' n' c').ownBlock = some w.heap.size) : Along A w A' w' := by
  rw [own_blk] at hg
  rw [own_blk, own_blk] at hat
  refine ⟨hg.os, hg.tape, hg.output, hg.size, fun b hb hA => ⟨hg.block b hb (fun e => hA e.symm), ?_⟩⟩
  rcases hat with e | e <;> rw [e]
  · exact hA
  · intro h; have := Option.some.inj h; omega
theorem Along.below {A A' : Option Addr} {w w' : World} {B : Nat} (h : Along A w A' w') (hA : ∀ b, blkOf A = some b → B ≤ b) (hw : B ≤ w.heap.size) : Below B w w' :=
  ⟨h.1, h.2.1, h.2.2.1, h.2.2.2.1, fun b hb => (h.2.2.2.2 b (by omega) (fun e => by have := hA b e; omega)).1⟩
theorem Along.cell {A A' : Option Addr} {w w' : World} (h : Along A w A' w') {p : Addr} (hp : p.block < w.heap.size) (hA : blkOf A ≠ some p.block) : w'.cell? p = w.cell? p := World.cell?_of_block (h.2.2.2.2 _ hp hA).1
/-- Blocks that are none of a row's. -/
def Off (P : Nat → Prop) (A : Option Addr) (w : World) : Prop := ∀ b, P b → b < w.heap.size ∧ blkOf A ≠ some b
theorem Off.along {P : Nat → Prop} {A A' : Option Addr} {w w' : World} (h : Off P A w) (k : Along A w A' w') : Off P A' w' := fun b hb => by
  obtain ⟨h1, h2⟩ := h b hb
  exact ⟨Nat.lt_of_lt_of_le h1 k.2.2.2.1, (k.2.2.2.2 b h1 h2).2⟩
theorem Tr.In.along {P : Nat → Prop} {A A' : Option Addr} {w w' : World} {t : Tr} (h : t.In P w) (ho : Off P A w) (k : Along A w A' w') : t.In P w' := h.keep (fun _ h => h) (fun _p hp => k.cell (ho _ hp).1 (ho _ hp).2)
theorem RdP.along {P : Nat → Prop} {A A' B : Option Addr} {w w' : World} {s n : Nat} {xs : List Value} (h : RdP P w s B n xs) (ho : Off P A w) (k : Along A w A' w') : RdP P w' s B n xs := h.keep (fun _ h => h) (fun _p hp => k.cell (ho _ hp).1 (ho _ hp).2)
end Go.Proofs.YtcmlfkoeajpliaaDoor
namespace Go.Proofs.YtcmlfkoeajpliaaDoor
open Go.RowKit Go.Lib
set_option maxRecDepth 100000
set_option maxHeartbeats 8000000
theorem six_new (w : World) (x0 x1 x2 x3 x4 x5 : Value) (t : TypeId) : ∀ j u, [x0, x1, x2, x3, x4, x5][j]? = some u → (w.alloc (.cells #[x0, x1, x2, x3, x4, x5] t)).cell? ((⟨w.heap.size, 0, none⟩ : Addr).add j) = some u := by
  intro j u hu
  match j, hu with
  | 0, hu => cases hu; simp [Addr.add]
  | 1, hu => cases hu; simp [Addr.add]
  | 2, hu => cases hu; simp [Addr.add]
  | 3, hu => cases hu; simp [Addr.add]
  | 4, hu => cases hu; simp [Addr.add]
  | 5, hu => cases hu; simp [Addr.add]
  | j + 6, hu => simp at hu
/-- Ahead of the append. -/
def NpA (w : World) (gt n c np ac i own : Nat) (A : Option Addr) (ad : Addr) (nm vl : List UInt8) (_base : Nat) (_M : List (Tr × Nat)) (c1 c2 c3 c5 c6 c9 c10 c11 c12 c13 c14 c15 c16 c17 c18 c19 c20 c21 c22 c23 c24 c43 c44 c45 c46 c47 c48 c49 c50 c51 c52 c53 c54 c55 c56 c57 c58 : Value) (F : Nat → Bool) (Pa : Act) (W : World) : Prop := ∃ s25 s26 s27 s28 s29 s30 s31 s32 s33 s34 s35 s36 s37 s38 s39 s40 s41 s42 : Value,
  Pa = { tmps := #[.slice A n c, c1, c2, c3, .pointer (some ⟨gt, 0, none⟩), c5, c6, .int .i64 (own : Int), .int .i64 (i : Int), c9, c10, c11, c12, c13, c14, c15, c16, c17, c18, c19, c20, c21, c22, c23, c24, s25, s26, s27, s28, s29, s30, s31, s32, s33, s34, s35, s36, s37, s38, s39, s40, s41, s42, c43, c44, c45, c46, c47, c48, c49, c50, c51, c52, c53, c54, c55, c56, c57, c58], defers := [] } ∧
  F 17 = false ∧ F 18 = false ∧ (F 2 = true → F 1 = true) ∧ (F 4 = true → F 2 = true) ∧ (F 4 = true → F 3 = true) ∧ (F 5 = true → F 4 = true) ∧ (F 6 = true → F 5 = true) ∧ (F 8 = true → F 7 = true) ∧ (F 10 = true → F 8 = true) ∧ (F 10 = true → F 9 = true) ∧ (F 11 = true → F 10 = true) ∧ (F 12 = true → F 11 = true) ∧ (F 13 = true → F 6 = true) ∧ (F 13 = true → F 12 = true) ∧ (F 15 = true → F 13 = true) ∧ (F 15 = true → F 14 = true) ∧ (F 16 = true → F 15 = true) ∧ Below w.heap.size w W ∧
  (F 0 = true → s25 = .slice A n c) ∧ (F 1 = true → s26 = .pointer (some ⟨gt, 3, none⟩)) ∧ (F 2 = true → s27 = .slice (some ad) np ac) ∧ (F 3 = true → s28 = .int .i64 (i : Int)) ∧ (F 4 = true → s29 = .pointer (some (ad.add (i * 2)))) ∧ (F 5 = true → s30 = .pointer (some (ad.add (i * 2)))) ∧ (F 6 = true → s31 = .string (ba' nm)) ∧ (F 7 = true → s32 = .pointer (some ⟨gt, 3, none⟩)) ∧ (F 8 = true → s33 = .slice (some ad) np ac) ∧ (F 9 = true → s34 = .int .i64 (i : Int)) ∧ (F 10 = true → s35 = .pointer (some (ad.add (i * 2)))) ∧ (F 11 = true → s36 = .pointer (some ⟨(ad.add (i * 2)).block, (ad.add (i * 2)).off + 1, none⟩)) ∧ (F 12 = true → s37 = .string (ba' vl)) ∧ (F 13 = true → s38 = .agg #[(.int .i64 3), (.string (ba' nm)), (.string (ba' vl)), (.slice none 0 0), (.slice none 0 0)]) ∧ (F 14 = true → s39 = .int .i64 (own : Int)) ∧ (F 15 = true → s40 = .agg #[(.int .i64 3), (.string (ba' nm)), (.string (ba' vl)), (.slice none 0 0), (.slice none 0 0), (.int .i64 (own : Int))]) ∧ (F 16 = true → ∃ Az cz, s41 = .slice Az 1 cz ∧ RdP (fun b => b < W.heap.size) W 6 Az 1 [.int .i64 3, .string (ba' nm), .string (ba' vl), .slice none 0 0, .slice none 0 0, .int .i64 (own : Int)])
/-- Behind it. -/
def NpB (w : World) (gt n _c _np _ac i own : Nat) (A : Option Addr) (_ad : Addr) (nm vl : List UInt8) (base : Nat) (M : List (Tr × Nat)) (c1 c2 c3 c5 c6 c9 c10 c11 c12 c13 c14 c15 c16 c17 c18 c19 c20 c21 c22 c23 c24 c43 c44 c45 c46 c47 c48 c49 c50 c51 c52 c53 c54 c55 c56 c57 c58 : Value) (F : Nat → Bool) (Pa : Act) (W : World) : Prop := ∃ (s25 s26 s27 s28 s29 s30 s31 s32 s33 s34 s35 s36 s37 s38 s39 s40 s41 s0 : Value) (Ab : Option Addr) (cb : Nat),
  Pa = { tmps := #[s0, c1, c2, c3, .pointer (some ⟨gt, 0, none⟩), c5, c6, .int .i64 (own : Int), .int .i64 (i : Int), c9, c10, c11, c12, c13, c14, c15, c16, c17, c18, c19, c20, c21, c22, c23, c24, s25, s26, s27, s28, s29, s30, s31, s32, s33, s34, s35, s36, s37, s38, s39, s40, s41, .slice Ab (n + 1) cb, c43, c44, c45, c46, c47, c48, c49, c50, c51, c52, c53, c54, c55, c56, c57, c58], defers := [] } ∧
  F 0 = true ∧ F 1 = true ∧ F 2 = true ∧ F 3 = true ∧ F 4 = true ∧ F 5 = true ∧ F 6 = true ∧ F 7 = true ∧ F 8 = true ∧ F 9 = true ∧ F 10 = true ∧ F 11 = true ∧ F 12 = true ∧ F 13 = true ∧ F 14 = true ∧ F 15 = true ∧ F 16 = true ∧ F 17 = true ∧ W.ownsRow base 83 6 (.slice Ab (n + 1) cb) (n + 1) (rowN (M ++ [(attrT (nm, vl), own)])) ∧ Along A w Ab W ∧ (F 18 = true → s0 = .slice Ab (n + 1) cb)
set_option maxHeartbeats 16000000 in
theorem pair_region (w : World) (gt n c np ac i own : Nat) (A : Option Addr) (ad : Addr) (nm vl : List UInt8) (base : Nat) (M : List (Tr × Nat)) (c1 c2 c3 c5 c6 c9 c10 c11 c12 c13 c14 c15 c16 c17 c18 c19 c20 c21 c22 c23 c24 c43 c44 c45 c46 c47 c48 c49 c50 c51 c52 c53 c54 c55 c56 c57 c58 x25 x26 x27 x28 x29 x30 x31 x32 x33 x34 x35 x36 x37 x38 x39 x40 x41 x42 : Value) (Q : Exit → Act → World → Prop) (hO : w.ownsRow base 83 6 (.slice A n c) n (rowN M)) (hbase : base ≤ w.heap.size) (hn6 : n ≤ 1048576) (hi6 : i < np) (_hnp : np ≤ 1048576) (hbx : w.cell? ⟨gt, 3, none⟩ = some (.slice (some ad) np ac)) (hgt : gt < w.heap.size) (had : (ad.add (i * 2)).block < w.heap.size)
    (hd0 : w.cell? (ad.add (i * 2)) = some (.string (ba' nm))) (hd1 : w.cell? ⟨(ad.add (i * 2)).block, (ad.add (i * 2)).off + 1, none⟩ = some (.string (ba' vl)))
    (hQ : ∀ (W : World) (Ab : Option Addr) (cb : Nat) (y25 y26 y27 y28 y29 y30 y31 y32 y33 y34 y35 y36 y37 y38 y39 y40 y41 : Value), W.ownsRow base 83 6 (.slice Ab (n + 1) cb) (n + 1) (rowN (M ++ [(attrT (nm, vl), own)])) → Along A w Ab W → Q .normal { tmps := #[.slice Ab (n + 1) cb, c1, c2, c3, .pointer (some ⟨gt, 0, none⟩), c5, c6, .int .i64 (own : Int), .int .i64 (i : Int), c9, c10, c11, c12, c13, c14, c15, c16, c17, c18, c19, c20, c21, c22, c23, c24, y25, y26, y27, y28, y29, y30, y31, y32, y33, y34, y35, y36, y37, y38, y39, y40, y41, .slice Ab (n + 1) cb, c43, c44, c45, c46, c47, c48, c49, c50, c51, c52, c53, c54, c55, c56, c57, c58], defers := [] } W) :
    Code.wp Tryd.prog ((Tryd.f21.body.bind (regionOf 6)).getD .skip) Q { tmps := #[.slice A n c, c1, c2, c3, .pointer (some ⟨gt, 0, none⟩), c5, c6, .int .i64 (own : Int), .int .i64 (i : Int), c9, c10, c11, c12, c13, c14, c15, c16, c17, c18, c19, c20, c21, c22, c23, c24, x25, x26, x27, x28, x29, x30, x31, x32, x33, x34, x35, x36, x37, x38, x39, x40, x41, x42, c43, c44, c45, c46, c47, c48, c49, c50, c51, c52, c53, c54, c55, c56, c57, c58], defers := [] } w := by
  conv => arg 2; whnf
  refine wp_region_inv (by kernel_rfl) (by kernel_rfl) (fun l a W => NpA w gt n c np ac i own A ad nm vl base M c1 c2 c3 c5 c6 c9 c10 c11 c12 c13 c14 c15 c16 c17 c18 c19 c20 c21 c22 c23 c24 c43 c44 c45 c46 c47 c48 c49 c50 c51 c52 c53 c54 c55 c56 c57 c58 (fun i => l.getD i false) a W ∨ NpB w gt n c np ac i own A ad nm vl base M c1 c2 c3 c5 c6 c9 c10 c11 c12 c13 c14 c15 c16 c17 c18 c19 c20 c21 c22 c23 c24 c43 c44 c45 c46 c47 c48 c49 c50 c51 c52 c53 c54 c55 c56 c57 c58 (fun i => l.getD i false) a W) ?_ ?_ ?_
  · exact .inl ⟨_, _, _, _, _, _, _, _, _, _, _, _, _, _, _, _, _, _, rfl, rfl, rfl, fun h => absurd h l0, fun h => absurd h l0, fun h => absurd h l0, fun h => absurd h l0, fun h => absurd h l0, fun h => absurd h l0, fun h => absurd h l0, fun h => absurd h l0, fun h => absurd h l0, fun h => absurd h l0, fun h => absurd h l0, fun h => absurd h l0, fun h => absurd h l0, fun h => absurd h l0, fun h => absurd h l0, bdr (Below.refl _ _), fun h => absurd h l0, fun h => absurd h l0, fun h => absurd h l0, fun h => absurd h l0, fun h => absurd h l0, fun h => absurd h l0, fun h => absurd h l0, fun h => absurd h l0, fun h => absurd h l0, fun h => absurd h l0, fun h => absurd h l0, fun h => absurd h l0, fun h => absurd h l0, fun h => absurd h l0, fun h => absurd h l0, fun h => absurd h l0, fun h => absurd h l0⟩
  · intro i9 o listed Pa w9 hi9 ho hd hn hI
    have hi' : i9 < 19 := hi9
    clear hi9
    rcases (by omega : i9 = 0 ∨ i9 = 1 ∨ i9 = 2 ∨ i9 = 3 ∨ i9 = 4 ∨ i9 = 5 ∨ i9 = 6 ∨ i9 = 7 ∨ i9 = 8 ∨ i9 = 9 ∨ i9 = 10 ∨ i9 = 11 ∨ i9 = 12 ∨ i9 = 13 ∨ i9 = 14 ∨ i9 = 15 ∨ i9 = 16 ∨ i9 = 17 ∨ i9 = 18) with rfl | rfl | rfl | rfl | rfl | rfl | rfl | rfl | rfl | rfl | rfl | rfl | rfl | rfl | rfl | rfl | rfl | rfl | rfl
    · simp only [List.getElem?_toArray, List.getElem?_cons_zero, Option.some.injEq] at ho
      subst ho
      rcases hI with hI | hI
      · obtain ⟨s25, s26, s27, s28, s29, s30, s31, s32, s33, s34, s35, s36, s37, s38, s39, s40, s41, s42, rfl, q17, q18, g2_1, g4_2, g4_3, g5_4, g6_5, g8_7, g10_8, g10_9, g11_10, g12_11, g13_6, g13_12, g15_13, g15_14, g16_15, hB, f0, f1, f2, f3, f4, f5, f6, f7, f8, f9, f10, f11, f12, f13, f14, f15, f16⟩ := hI
        refine wpOp_step rfl (fun K hK => ?_)
        go_simp
        refine hK _ _ (.inl ?_)
        unfold NpA
        simp only [flag_ne (i := 0) 1 (by decide), flag_ne (i := 0) 2 (by decide), flag_ne (i := 0) 3 (by decide), flag_ne (i := 0) 4 (by decide), flag_ne (i := 0) 5 (by decide), flag_ne (i := 0) 6 (by decide), flag_ne (i := 0) 7 (by decide), flag_ne (i := 0) 8 (by decide), flag_ne (i := 0) 9 (by decide), flag_ne (i := 0) 10 (by decide), flag_ne (i := 0) 11 (by decide), flag_ne (i := 0) 12 (by decide), flag_ne (i := 0) 13 (by decide), flag_ne (i := 0) 14 (by decide), flag_ne (i := 0) 15 (by decide), flag_ne (i := 0) 16 (by decide), flag_ne (i := 0) 17 (by decide), flag_ne (i := 0) 18 (by decide), lself hn]
        exact ⟨_, _, _, _, _, _, _, _, _, _, _, _, _, _, _, _, _, _, rfl, q17, q18, fun h => g2_1 h, fun h => g4_2 h, fun h => g4_3 h, fun h => g5_4 h, fun h => g6_5 h, fun h => g8_7 h, fun h => g10_8 h, fun h => g10_9 h, fun h => g11_10 h, fun h => g12_11 h, fun h => g13_6 h, fun h => g13_12 h, fun h => g15_13 h, fun h => g15_14 h, fun h => g16_15 h, hB, fun _ => rfl, fun h => f1 h, fun h => f2 h, fun h => f3 h, fun h => f4 h, fun h => f5 h, fun h => f6 h, fun h => f7 h, fun h => f8 h, fun h => f9 h, fun h => f10 h, fun h => f11 h, fun h => f12 h, fun h => f13 h, fun h => f14 h, fun h => f15 h, fun h => f16 h⟩
      · obtain ⟨s25, s26, s27, s28, s29, s30, s31, s32, s33, s34, s35, s36, s37, s38, s39, s40, s41, s0, Ab, cb, rfl, q0, q1, q2, q3, q4, q5, q6, q7, q8, q9, q10, q11, q12, q13, q14, q15, q16, q17, hO, hL, f18⟩ := hI
        exact lc hn q0
    · simp only [List.getElem?_toArray, List.getElem?_cons_zero, List.getElem?_cons_succ, Option.some.injEq] at ho
      subst ho
      rcases hI with hI | hI
      · obtain ⟨s25, s26, s27, s28, s29, s30, s31, s32, s33, s34, s35, s36, s37, s38, s39, s40, s41, s42, rfl, q17, q18, g2_1, g4_2, g4_3, g5_4, g6_5, g8_7, g10_8, g10_9, g11_10, g12_11, g13_6, g13_12, g15_13, g15_14, g16_15, hB, f0, f1, f2, f3, f4, f5, f6, f7, f8, f9, f10, f11, f12, f13, f14, f15, f16⟩ := hI
        refine wpOp_step rfl (fun K hK => ?_)
        go_simp
        refine hK _ _ (.inl ?_)
        unfold NpA
        simp only [flag_ne (i := 1) 0 (by decide), flag_ne (i := 1) 2 (by decide), flag_ne (i := 1) 3 (by decide), flag_ne (i := 1) 4 (by decide), flag_ne (i := 1) 5 (by decide), flag_ne (i := 1) 6 (by decide), flag_ne (i := 1) 7 (by decide), flag_ne (i := 1) 8 (by decide), flag_ne (i := 1) 9 (by decide), flag_ne (i := 1) 10 (by decide), flag_ne (i := 1) 11 (by decide), flag_ne (i := 1) 12 (by decide), flag_ne (i := 1) 13 (by decide), flag_ne (i := 1) 14 (by decide), flag_ne (i := 1) 15 (by decide), flag_ne (i := 1) 16 (by decide), flag_ne (i := 1) 17 (by decide), flag_ne (i := 1) 18 (by decide), lself hn]
        exact ⟨_, _, _, _, _, _, _, _, _, _, _, _, _, _, _, _, _, _, rfl, q17, q18, (by first | exact fun _ => rfl | exact fun _ => trivial | trivial), fun h => g4_2 h, fun h => g4_3 h, fun h => g5_4 h, fun h => g6_5 h, fun h => g8_7 h, fun h => g10_8 h, fun h => g10_9 h, fun h => g11_10 h, fun h => g12_11 h, fun h => g13_6 h, fun h => g13_12 h, fun h => g15_13 h, fun h => g15_14 h, fun h => g16_15 h, hB, fun h => f0 h, fun _ => rfl, fun h => f2 h, fun h => f3 h, fun h => f4 h, fun h => f5 h, fun h => f6 h, fun h => f7 h, fun h => f8 h, fun h => f9 h, fun h => f10 h, fun h => f11 h, fun h => f12 h, fun h => f13 h, fun h => f14 h, fun h => f15 h, fun h => f16 h⟩
      · obtain ⟨s25, s26, s27, s28, s29, s30, s31, s32, s33, s34, s35, s36, s37, s38, s39, s40, s41, s0, Ab, cb, rfl, q0, q1, q2, q3, q4, q5, q6, q7, q8, q9, q10, q11, q12, q13, q14, q15, q16, q17, hO, hL, f18⟩ := hI
        exact lc hn q1
    · simp only [List.getElem?_toArray, List.getElem?_cons_zero, List.getElem?_cons_succ, Option.some.injEq] at ho
      subst ho
      rcases hI with hI | hI
      · obtain ⟨s25, s26, s27, s28, s29, s30, s31, s32, s33, s34, s35, s36, s37, s38, s39, s40, s41, s42, rfl, q17, q18, g2_1, g4_2, g4_3, g5_4, g6_5, g8_7, g10_8, g10_9, g11_10, g12_11, g13_6, g13_12, g15_13, g15_14, g16_15, hB, f0, f1, f2, f3, f4, f5, f6, f7, f8, f9, f10, f11, f12, f13, f14, f15, f16⟩ := hI
        obtain rfl := f1 (hd ⟨1, .data⟩ (by simp) rfl)
        have hc := (hB.cell (p := ⟨gt, 3, none⟩) hgt).trans hbx
        refine wpOp_step rfl (fun K hK => ?_)
        go_simp
        refine hK _ _ (.inl ?_)
        unfold NpA
        simp only [flag_ne (i := 2) 0 (by decide), flag_ne (i := 2) 1 (by decide), flag_ne (i := 2) 3 (by decide), flag_ne (i := 2) 4 (by decide), flag_ne (i := 2) 5 (by decide), flag_ne (i := 2) 6 (by decide), flag_ne (i := 2) 7 (by decide), flag_ne (i := 2) 8 (by decide), flag_ne (i := 2) 9 (by decide), flag_ne (i := 2) 10 (by decide), flag_ne (i := 2) 11 (by decide), flag_ne (i := 2) 12 (by decide), flag_ne (i := 2) 13 (by decide), flag_ne (i := 2) 14 (by decide), flag_ne (i := 2) 15 (by decide), flag_ne (i := 2) 16 (by decide), flag_ne (i := 2) 17 (by decide), flag_ne (i := 2) 18 (by decide), lself hn]
        exact ⟨_, _, _, _, _, _, _, _, _, _, _, _, _, _, _, _, _, _, rfl, q17, q18, fun _ => (hd ⟨1, .data⟩ (by simp) rfl), (by first | exact fun _ => rfl | exact fun _ => trivial | trivial), fun h => g4_3 h, fun h => g5_4 h, fun h => g6_5 h, fun h => g8_7 h, fun h => g10_8 h, fun h => g10_9 h, fun h => g11_10 h, fun h => g12_11 h, fun h => g13_6 h, fun h => g13_12 h, fun h => g15_13 h, fun h => g15_14 h, fun h => g16_15 h, hB, fun h => f0 h, fun h => f1 h, fun _ => rfl, fun h => f3 h, fun h => f4 h, fun h => f5 h, fun h => f6 h, fun h => f7 h, fun h => f8 h, fun h => f9 h, fun h => f10 h, fun h => f11 h, fun h => f12 h, fun h => f13 h, fun h => f14 h, fun h => f15 h, fun h => f16 h⟩
      · obtain ⟨s25, s26, s27, s28, s29, s30, s31, s32, s33, s34, s35, s36, s37, s38, s39, s40, s41, s0, Ab, cb, rfl, q0, q1, q2, q3, q4, q5, q6, q7, q8, q9, q10, q11, q12, q13, q14, q15, q16, q17, hO, hL, f18⟩ := hI
        exact lc hn q2
    · simp only [List.getElem?_toArray, List.getElem?_cons_zero, List.getElem?_cons_succ, Option.some.injEq] at ho
      subst ho
      rcases hI with hI | hI
      · obtain ⟨s25, s26, s27, s28, s29, s30, s31, s32, s33, s34, s35, s36, s37, s38, s39, s40, s41, s42, rfl, q17, q18, g2_1, g4_2, g4_3, g5_4, g6_5, g8_7, g10_8, g10_9, g11_10, g12_11, g13_6, g13_12, g15_13, g15_14, g16_15, hB, f0, f1, f2, f3, f4, f5, f6, f7, f8, f9, f10, f11, f12, f13, f14, f15, f16⟩ := hI
        refine wpOp_step rfl (fun K hK => ?_)
        go_simp
        refine hK _ _ (.inl ?_)
        unfold NpA
        simp only [flag_ne (i := 3) 0 (by decide), flag_ne (i := 3) 1 (by decide), flag_ne (i := 3) 2 (by decide), flag_ne (i := 3) 4 (by decide), flag_ne (i := 3) 5 (by decide), flag_ne (i := 3) 6 (by decide), flag_ne (i := 3) 7 (by decide), flag_ne (i := 3) 8 (by decide), flag_ne (i := 3) 9 (by decide), flag_ne (i := 3) 10 (by decide), flag_ne (i := 3) 11 (by decide), flag_ne (i := 3) 12 (by decide), flag_ne (i := 3) 13 (by decide), flag_ne (i := 3) 14 (by decide), flag_ne (i := 3) 15 (by decide), flag_ne (i := 3) 16 (by decide), flag_ne (i := 3) 17 (by decide), flag_ne (i := 3) 18 (by decide), lself hn]
        exact ⟨_, _, _, _, _, _, _, _, _, _, _, _, _, _, _, _, _, _, rfl, q17, q18, fun h => g2_1 h, fun h => g4_2 h, (by first | exact fun _ => rfl | exact fun _ => trivial | trivial), fun h => g5_4 h, fun h => g6_5 h, fun h => g8_7 h, fun h => g10_8 h, fun h => g10_9 h, fun h => g11_10 h, fun h => g12_11 h, fun h => g13_6 h, fun h => g13_12 h, fun h => g15_13 h, fun h => g15_14 h, fun h => g16_15 h, hB, fun h => f0 h, fun h => f1 h, fun h => f2 h, fun _ => rfl, fun h => f4 h, fun h => f5 h, fun h => f6 h, fun h => f7 h, fun h => f8 h, fun h => f9 h, fun h => f10 h, fun h => f11 h, fun h => f12 h, fun h => f13 h, fun h => f14 h, fun h => f15 h, fun h => f16 h⟩
      · obtain ⟨s25, s26, s27, s28, s29, s30, s31, s32, s33, s34, s35, s36, s37, s38, s39, s40, s41, s0, Ab, cb, rfl, q0, q1, q2, q3, q4, q5, q6, q7, q8, q9, q10, q11, q12, q13, q14, q15, q16, q17, hO, hL, f18⟩ := hI
        exact lc hn q3
    · simp only [List.getElem?_toArray, List.getElem?_cons_zero, List.getElem?_cons_succ, Option.some.injEq] at ho
      subst ho
      rcases hI with hI | hI
      · obtain ⟨s25, s26, s27, s28, s29, s30, s31, s32, s33, s34, s35, s36, s37, s38, s39, s40, s41, s42, rfl, q17, q18, g2_1, g4_2, g4_3, g5_4, g6_5, g8_7, g10_8, g10_9, g11_10, g12_11, g13_6, g13_12, g15_13, g15_14, g16_15, hB, f0, f1, f2, f3, f4, f5, f6, f7, f8, f9, f10, f11, f12, f13, f14, f15, f16⟩ := hI
        obtain rfl := f2 (hd ⟨2, .data⟩ (by simp) rfl)
        obtain rfl := f3 (hd ⟨3, .data⟩ (by simp) rfl)
        have gl : decide ((i : Int) < (np : Int)) = true := by simp; omega
        have gn : decide (i < np) = true := by simpa using hi6
        refine wpOp_step rfl (fun K hK => ?_)
        go_simp
        refine hK _ _ (.inl ?_)
        unfold NpA
        simp only [flag_ne (i := 4) 0 (by decide), flag_ne (i := 4) 1 (by decide), flag_ne (i := 4) 2 (by decide), flag_ne (i := 4) 3 (by decide), flag_ne (i := 4) 5 (by decide), flag_ne (i := 4) 6 (by decide), flag_ne (i := 4) 7 (by decide), flag_ne (i := 4) 8 (by decide), flag_ne (i := 4) 9 (by decide), flag_ne (i := 4) 10 (by decide), flag_ne (i := 4) 11 (by decide), flag_ne (i := 4) 12 (by decide), flag_ne (i := 4) 13 (by decide), flag_ne (i := 4) 14 (by decide), flag_ne (i := 4) 15 (by decide), flag_ne (i := 4) 16 (by decide), flag_ne (i := 4) 17 (by decide), flag_ne (i := 4) 18 (by decide), lself hn]
        exact ⟨_, _, _, _, _, _, _, _, _, _, _, _, _, _, _, _, _, _, rfl, q17, q18, fun h => g2_1 h, fun _ => (hd ⟨2, .data⟩ (by simp) rfl), fun _ => (hd ⟨3, .data⟩ (by simp) rfl), (by first | exact fun _ => rfl | exact fun _ => trivial | trivial), fun h => g6_5 h, fun h => g8_7 h, fun h => g10_8 h, fun h => g10_9 h, fun h => g11_10 h, fun h => g12_11 h, fun h => g13_6 h, fun h => g13_12 h, fun h => g15_13 h, fun h => g15_14 h, fun h => g16_15 h, hB, fun h => f0 h, fun h => f1 h, fun h => f2 h, fun h => f3 h, fun _ => rfl, fun h => f5 h, fun h => f6 h, fun h => f7 h, fun h => f8 h, fun h => f9 h, fun h => f10 h, fun h => f11 h, fun h => f12 h, fun h => f13 h, fun h => f14 h, fun h => f15 h, fun h => f16 h⟩
      · obtain ⟨s25, s26, s27, s28, s29, s30, s31, s32, s33, s34, s35, s36, s37, s38, s39, s40, s41, s0, Ab, cb, rfl, q0, q1, q2, q3, q4, q5, q6, q7, q8, q9, q10, q11, q12, q13, q14, q15, q16, q17, hO, hL, f18⟩ := hI
        exact lc hn q4
    · simp only [List.getElem?_toArray, List.getElem?_cons_zero, List.getElem?_cons_succ, Option.some.injEq] at ho
      subst ho
      rcases hI with hI | hI
      · obtain ⟨s25, s26, s27, s28, s29, s30, s31, s32, s33, s34, s35, s36, s37, s38, s39, s40, s41, s42, rfl, q17, q18, g2_1, g4_2, g4_3, g5_4, g6_5, g8_7, g10_8, g10_9, g11_10, g12_11, g13_6, g13_12, g15_13, g15_14, g16_15, hB, f0, f1, f2, f3, f4, f5, f6, f7, f8, f9, f10, f11, f12, f13, f14, f15, f16⟩ := hI
        obtain rfl := f4 (hd ⟨4, .data⟩ (by simp) rfl)
        refine wpOp_step rfl (fun K hK => ?_)
        go_simp
        refine hK _ _ (.inl ?_)
        unfold NpA
        simp only [flag_ne (i := 5) 0 (by decide), flag_ne (i := 5) 1 (by decide), flag_ne (i := 5) 2 (by decide), flag_ne (i := 5) 3 (by decide), flag_ne (i := 5) 4 (by decide), flag_ne (i := 5) 6 (by decide), flag_ne (i := 5) 7 (by decide), flag_ne (i := 5) 8 (by decide), flag_ne (i := 5) 9 (by decide), flag_ne (i := 5) 10 (by decide), flag_ne (i := 5) 11 (by decide), flag_ne (i := 5) 12 (by decide), flag_ne (i := 5) 13 (by decide), flag_ne (i := 5) 14 (by decide), flag_ne (i := 5) 15 (by decide), flag_ne (i := 5) 16 (by decide), flag_ne (i := 5) 17 (by decide), flag_ne (i := 5) 18 (by decide), lself hn]
        exact ⟨_, _, _, _, _, _, _, _, _, _, _, _, _, _, _, _, _, _, rfl, q17, q18, fun h => g2_1 h, fun h => g4_2 h, fun h => g4_3 h, fun _ => (hd ⟨4, .data⟩ (by simp) rfl), (by first | exact fun _ => rfl | exact fun _ => trivial | trivial), fun h => g8_7 h, fun h => g10_8 h, fun h => g10_9 h, fun h => g11_10 h, fun h => g12_11 h, fun h => g13_6 h, fun h => g13_12 h, fun h => g15_13 h, fun h => g15_14 h, fun h => g16_15 h, hB, fun h => f0 h, fun h => f1 h, fun h => f2 h, fun h => f3 h, fun h => f4 h, fun _ => rfl, fun h => f6 h, fun h => f7 h, fun h => f8 h, fun h => f9 h, fun h => f10 h, fun h => f11 h, fun h => f12 h, fun h => f13 h, fun h => f14 h, fun h => f15 h, fun h => f16 h⟩
      · obtain ⟨s25, s26, s27, s28, s29, s30, s31, s32, s33, s34, s35, s36, s37, s38, s39, s40, s41, s0, Ab, cb, rfl, q0, q1, q2, q3, q4, q5, q6, q7, q8, q9, q10, q11, q12, q13, q14, q15, q16, q17, hO, hL, f18⟩ := hI
        exact lc hn q5
    · simp only [List.getElem?_toArray, List.getElem?_cons_zero, List.getElem?_cons_succ, Option.some.injEq] at ho
      subst ho
      rcases hI with hI | hI
      · obtain ⟨s25, s26, s27, s28, s29, s30, s31, s32, s33, s34, s35, s36, s37, s38, s39, s40, s41, s42, rfl, q17, q18, g2_1, g4_2, g4_3, g5_4, g6_5, g8_7, g10_8, g10_9, g11_10, g12_11, g13_6, g13_12, g15_13, g15_14, g16_15, hB, f0, f1, f2, f3, f4, f5, f6, f7, f8, f9, f10, f11, f12, f13, f14, f15, f16⟩ := hI
        obtain rfl := f5 (hd ⟨5, .data⟩ (by simp) rfl)
        have hc := (hB.cell had).trans hd0
        refine wpOp_step rfl (fun K hK => ?_)
        go_simp
        refine hK _ _ (.inl ?_)
        unfold NpA
        simp only [flag_ne (i := 6) 0 (by decide), flag_ne (i := 6) 1 (by decide), flag_ne (i := 6) 2 (by decide), flag_ne (i := 6) 3 (by decide), flag_ne (i := 6) 4 (by decide), flag_ne (i := 6) 5 (by decide), flag_ne (i := 6) 7 (by decide), flag_ne (i := 6) 8 (by decide), flag_ne (i := 6) 9 (by decide), flag_ne (i := 6) 10 (by decide), flag_ne (i := 6) 11 (by decide), flag_ne (i := 6) 12 (by decide), flag_ne (i := 6) 13 (by decide), flag_ne (i := 6) 14 (by decide), flag_ne (i := 6) 15 (by decide), flag_ne (i := 6) 16 (by decide), flag_ne (i := 6) 17 (by decide), flag_ne (i := 6) 18 (by decide), lself hn]
        exact ⟨_, _, _, _, _, _, _, _, _, _, _, _, _, _, _, _, _, _, rfl, q17, q18, fun h => g2_1 h, fun h => g4_2 h, fun h => g4_3 h, fun h => g5_4 h, fun _ => (hd ⟨5, .data⟩ (by simp) rfl), fun h => g8_7 h, fun h => g10_8 h, fun h => g10_9 h, fun h => g11_10 h, fun h => g12_11 h, (by first | exact fun _ => rfl | exact fun _ => trivial | trivial), fun h => g13_12 h, fun h => g15_13 h, fun h => g15_14 h, fun h => g16_15 h, hB, fun h => f0 h, fun h => f1 h, fun h => f2 h, fun h => f3 h, fun h => f4 h, fun h => f5 h, fun _ => rfl, fun h => f7 h, fun h => f8 h, fun h => f9 h, fun h => f10 h, fun h => f11 h, fun h => f12 h, fun h => f13 h, fun h => f14 h, fun h => f15 h, fun h => f16 h⟩
      · obtain ⟨s25, s26, s27, s28, s29, s30, s31, s32, s33, s34, s35, s36, s37, s38, s39, s40, s41, s0, Ab, cb, rfl, q0, q1, q2, q3, q4, q5, q6, q7, q8, q9, q10, q11, q12, q13, q14, q15, q16, q17, hO, hL, f18⟩ := hI
        exact lc hn q6
    · simp only [List.getElem?_toArray, List.getElem?_cons_zero, List.getElem?_cons_succ, Option.some.injEq] at ho
      subst ho
      rcases hI with hI | hI
      · obtain ⟨s25, s26, s27, s28, s29, s30, s31, s32, s33, s34, s35, s36, s37, s38, s39, s40, s41, s42, rfl, q17, q18, g2_1, g4_2, g4_3, g5_4, g6_5, g8_7, g10_8, g10_9, g11_10, g12_11, g13_6, g13_12, g15_13, g15_14, g16_15, hB, f0, f1, f2, f3, f4, f5, f6, f7, f8, f9, f10, f11, f12, f13, f14, f15, f16⟩ := hI
        refine wpOp_step rfl (fun K hK => ?_)
        go_simp
        refine hK _ _ (.inl ?_)
        unfold NpA
        simp only [flag_ne (i := 7) 0 (by decide), flag_ne (i := 7) 1 (by decide), flag_ne (i := 7) 2 (by decide), flag_ne (i := 7) 3 (by decide), flag_ne (i := 7) 4 (by decide), flag_ne (i := 7) 5 (by decide), flag_ne (i := 7) 6 (by decide), flag_ne (i := 7) 8 (by decide), flag_ne (i := 7) 9 (by decide), flag_ne (i := 7) 10 (by decide), flag_ne (i := 7) 11 (by decide), flag_ne (i := 7) 12 (by decide), flag_ne (i := 7) 13 (by decide), flag_ne (i := 7) 14 (by decide), flag_ne (i := 7) 15 (by decide), flag_ne (i := 7) 16 (by decide), flag_ne (i := 7) 17 (by decide), flag_ne (i := 7) 18 (by decide), lself hn]
        exact ⟨_, _, _, _, _, _, _, _, _, _, _, _, _, _, _, _, _, _, rfl, q17, q18, fun h => g2_1 h, fun h => g4_2 h, fun h => g4_3 h, fun h => g5_4 h, fun h => g6_5 h, (by first | exact fun _ => rfl | exact fun _ => trivial | trivial), fun h => g10_8 h, fun h => g10_9 h, fun h => g11_10 h, fun h => g12_11 h, fun h => g13_6 h, fun h => g13_12 h, fun h => g15_13 h, fun h => g15_14 h, fun h => g16_15 h, hB, fun h => f0 h, fun h => f1 h, fun h => f2 h, fun h => f3 h, fun h => f4 h, fun h => f5 h, fun h => f6 h, fun _ => rfl, fun h => f8 h, fun h => f9 h, fun h => f10 h, fun h => f11 h, fun h => f12 h, fun h => f13 h, fun h => f14 h, fun h => f15 h, fun h => f16 h⟩
      · obtain ⟨s25, s26, s27, s28, s29, s30, s31, s32, s33, s34, s35, s36, s37, s38, s39, s40, s41, s0, Ab, cb, rfl, q0, q1, q2, q3, q4, q5, q6, q7, q8, q9, q10, q11, q12, q13, q14, q15, q16, q17, hO, hL, f18⟩ := hI
        exact lc hn q7
    · simp only [List.getElem?_toArray, List.getElem?_cons_zero, List.getElem?_cons_succ, Option.some.injEq] at ho
      subst ho
      rcases hI with hI | hI
      · obtain ⟨s25, s26, s27, s28, s29, s30, s31, s32, s33, s34, s35, s36, s37, s38, s39, s40, s41, s42, rfl, q17, q18, g2_1, g4_2, g4_3, g5_4, g6_5, g8_7, g10_8, g10_9, g11_10, g12_11, g13_6, g13_12, g15_13, g15_14, g16_15, hB, f0, f1, f2, f3, f4, f5, f6, f7, f8, f9, f10, f11, f12, f13, f14, f15, f16⟩ := hI
        obtain rfl := f7 (hd ⟨7, .data⟩ (by simp) rfl)
        have hc := (hB.cell (p := ⟨gt, 3, none⟩) hgt).trans hbx
        refine wpOp_step rfl (fun K hK => ?_)
        go_simp
        refine hK _ _ (.inl ?_)
        unfold NpA
        simp only [flag_ne (i := 8) 0 (by decide), flag_ne (i := 8) 1 (by decide), flag_ne (i := 8) 2 (by decide), flag_ne (i := 8) 3 (by decide), flag_ne (i := 8) 4 (by decide), flag_ne (i := 8) 5 (by decide), flag_ne (i := 8) 6 (by decide), flag_ne (i := 8) 7 (by decide), flag_ne (i := 8) 9 (by decide), flag_ne (i := 8) 10 (by decide), flag_ne (i := 8) 11 (by decide), flag_ne (i := 8) 12 (by decide), flag_ne (i := 8) 13 (by decide), flag_ne (i := 8) 14 (by decide), flag_ne (i := 8) 15 (by decide), flag_ne (i := 8) 16 (by decide), flag_ne (i := 8) 17 (by decide), flag_ne (i := 8) 18 (by decide), lself hn]
        exact ⟨_, _, _, _, _, _, _, _, _, _, _, _, _, _, _, _, _, _, rfl, q17, q18, fun h => g2_1 h, fun h => g4_2 h, fun h => g4_3 h, fun h => g5_4 h, fun h => g6_5 h, fun _ => (hd ⟨7, .data⟩ (by simp) rfl), (by first | exact fun _ => rfl | exact fun _ => trivial | trivial), fun h => g10_9 h, fun h => g11_10 h, fun h => g12_11 h, fun h => g13_6 h, fun h => g13_12 h, fun h => g15_13 h, fun h => g15_14 h, fun h => g16_15 h, hB, fun h => f0 h, fun h => f1 h, fun h => f2 h, fun h => f3 h, fun h => f4 h, fun h => f5 h, fun h => f6 h, fun h => f7 h, fun _ => rfl, fun h => f9 h, fun h => f10 h, fun h => f11 h, fun h => f12 h, fun h => f13 h, fun h => f14 h, fun h => f15 h, fun h => f16 h⟩
      · obtain ⟨s25, s26, s27, s28, s29, s30, s31, s32, s33, s34, s35, s36, s37, s38, s39, s40, s41, s0, Ab, cb, rfl, q0, q1, q2, q3, q4, q5, q6, q7, q8, q9, q10, q11, q12, q13, q14, q15, q16, q17, hO, hL, f18⟩ := hI
        exact lc hn q8
    · simp only [List.getElem?_toArray, List.getElem?_cons_zero, List.getElem?_cons_succ, Option.some.injEq] at ho
      subst ho
      rcases hI with hI | hI
      · obtain ⟨s25, s26, s27, s28, s29, s30, s31, s32, s33, s34, s35, s36, s37, s38, s39, s40, s41, s42, rfl, q17, q18, g2_1, g4_2, g4_3, g5_4, g6_5, g8_7, g10_8, g10_9, g11_10, g12_11, g13_6, g13_12, g15_13, g15_14, g16_15, hB, f0, f1, f2, f3, f4, f5, f6, f7, f8, f9, f10, f11, f12, f13, f14, f15, f16⟩ := hI
        refine wpOp_step rfl (fun K hK => ?_)
        go_simp
        refine hK _ _ (.inl ?_)
        unfold NpA
        simp only [flag_ne (i := 9) 0 (by decide), flag_ne (i := 9) 1 (by decide), flag_ne (i := 9) 2 (by decide), flag_ne (i := 9) 3 (by decide), flag_ne (i := 9) 4 (by decide), flag_ne (i := 9) 5 (by decide), flag_ne (i := 9) 6 (by decide), flag_ne (i := 9) 7 (by decide), flag_ne (i := 9) 8 (by decide), flag_ne (i := 9) 10 (by decide), flag_ne (i := 9) 11 (by decide), flag_ne (i := 9) 12 (by decide), flag_ne (i := 9) 13 (by decide), flag_ne (i := 9) 14 (by decide), flag_ne (i := 9) 15 (by decide), flag_ne (i := 9) 16 (by decide), flag_ne (i := 9) 17 (by decide), flag_ne (i := 9) 18 (by decide), lself hn]
        exact ⟨_, _, _, _, _, _, _, _, _, _, _, _, _, _, _, _, _, _, rfl, q17, q18, fun h => g2_1 h, fun h => g4_2 h, fun h => g4_3 h, fun h => g5_4 h, fun h => g6_5 h, fun h => g8_7 h, fun h => g10_8 h, (by first | exact fun _ => rfl | exact fun _ => trivial | trivial), fun h => g11_10 h, fun h => g12_11 h, fun h => g13_6 h, fun h => g13_12 h, fun h => g15_13 h, fun h => g15_14 h, fun h => g16_15 h, hB, fun h => f0 h, fun h => f1 h, fun h => f2 h, fun h => f3 h, fun h => f4 h, fun h => f5 h, fun h => f6 h, fun h => f7 h, fun h => f8 h, fun _ => rfl, fun h => f10 h, fun h => f11 h, fun h => f12 h, fun h => f13 h, fun h => f14 h, fun h => f15 h, fun h => f16 h⟩
      · obtain ⟨s25, s26, s27, s28, s29, s30, s31, s32, s33, s34, s35, s36, s37, s38, s39, s40, s41, s0, Ab, cb, rfl, q0, q1, q2, q3, q4, q5, q6, q7, q8, q9, q10, q11, q12, q13, q14, q15, q16, q17, hO, hL, f18⟩ := hI
        exact lc hn q9
    · simp only [List.getElem?_toArray, List.getElem?_cons_zero, List.getElem?_cons_succ, Option.some.injEq] at ho
      subst ho
      rcases hI with hI | hI
      · obtain ⟨s25, s26, s27, s28, s29, s30, s31, s32, s33, s34, s35, s36, s37, s38, s39, s40, s41, s42, rfl, q17, q18, g2_1, g4_2, g4_3, g5_4, g6_5, g8_7, g10_8, g10_9, g11_10, g12_11, g13_6, g13_12, g15_13, g15_14, g16_15, hB, f0, f1, f2, f3, f4, f5, f6, f7, f8, f9, f10, f11, f12, f13, f14, f15, f16⟩ := hI
        obtain rfl := f8 (hd ⟨8, .data⟩ (by simp) rfl)
        obtain rfl := f9 (hd ⟨9, .data⟩ (by simp) rfl)
        have gl : decide ((i : Int) < (np : Int)) = true := by simp; omega
        have gn : decide (i < np) = true := by simpa using hi6
        refine wpOp_step rfl (fun K hK => ?_)
        go_simp
        refine hK _ _ (.inl ?_)
        unfold NpA
        simp only [flag_ne (i := 10) 0 (by decide), flag_ne (i := 10) 1 (by decide), flag_ne (i := 10) 2 (by decide), flag_ne (i := 10) 3 (by decide), flag_ne (i := 10) 4 (by decide), flag_ne (i := 10) 5 (by decide), flag_ne (i := 10) 6 (by decide), flag_ne (i := 10) 7 (by decide), flag_ne (i := 10) 8 (by decide), flag_ne (i := 10) 9 (by decide), flag_ne (i := 10) 11 (by decide), flag_ne (i := 10) 12 (by decide), flag_ne (i := 10) 13 (by decide), flag_ne (i := 10) 14 (by decide), flag_ne (i := 10) 15 (by decide), flag_ne (i := 10) 16 (by decide), flag_ne (i := 10) 17 (by decide), flag_ne (i := 10) 18 (by decide), lself hn]
        exact ⟨_, _, _, _, _, _, _, _, _, _, _, _, _, _, _, _, _, _, rfl, q17, q18, fun h => g2_1 h, fun h => g4_2 h, fun h => g4_3 h, fun h => g5_4 h, fun h => g6_5 h, fun h => g8_7 h, fun _ => (hd ⟨8, .data⟩ (by simp) rfl), fun _ => (hd ⟨9, .data⟩ (by simp) rfl), (by first | exact fun _ => rfl | exact fun _ => trivial | trivial), fun h => g12_11 h, fun h => g13_6 h, fun h => g13_12 h, fun h => g15_13 h, fun h => g15_14 h, fun h => g16_15 h, hB, fun h => f0 h, fun h => f1 h, fun h => f2 h, fun h => f3 h, fun h => f4 h, fun h => f5 h, fun h => f6 h, fun h => f7 h, fun h => f8 h, fun h => f9 h, fun _ => rfl, fun h => f11 h, fun h => f12 h, fun h => f13 h, fun h => f14 h, fun h => f15 h, fun h => f16 h⟩
      · obtain ⟨s25, s26, s27, s28, s29, s30, s31, s32, s33, s34, s35, s36, s37, s38, s39, s40, s41, s0, Ab, cb, rfl, q0, q1, q2, q3, q4, q5, q6, q7, q8, q9, q10, q11, q12, q13, q14, q15, q16, q17, hO, hL, f18⟩ := hI
        exact lc hn q10
    · simp only [List.getElem?_toArray, List.getElem?_cons_zero, List.getElem?_cons_succ, Option.some.injEq] at ho
      subst ho
      rcases hI with hI | hI
      · obtain ⟨s25, s26, s27, s28, s29, s30, s31, s32, s33, s34, s35, s36, s37, s38, s39, s40, s41, s42, rfl, q17, q18, g2_1, g4_2, g4_3, g5_4, g6_5, g8_7, g10_8, g10_9, g11_10, g12_11, g13_6, g13_12, g15_13, g15_14, g16_15, hB, f0, f1, f2, f3, f4, f5, f6, f7, f8, f9, f10, f11, f12, f13, f14, f15, f16⟩ := hI
        obtain rfl := f10 (hd ⟨10, .data⟩ (by simp) rfl)
        refine wpOp_step rfl (fun K hK => ?_)
        go_simp
        refine hK _ _ (.inl ?_)
        unfold NpA
        simp only [flag_ne (i := 11) 0 (by decide), flag_ne (i := 11) 1 (by decide), flag_ne (i := 11) 2 (by decide), flag_ne (i := 11) 3 (by decide), flag_ne (i := 11) 4 (by decide), flag_ne (i := 11) 5 (by decide), flag_ne (i := 11) 6 (by decide), flag_ne (i := 11) 7 (by decide), flag_ne (i := 11) 8 (by decide), flag_ne (i := 11) 9 (by decide), flag_ne (i := 11) 10 (by decide), flag_ne (i := 11) 12 (by decide), flag_ne (i := 11) 13 (by decide), flag_ne (i := 11) 14 (by decide), flag_ne (i := 11) 15 (by decide), flag_ne (i := 11) 16 (by decide), flag_ne (i := 11) 17 (by decide), flag_ne (i := 11) 18 (by decide), lself hn]
        exact ⟨_, _, _, _, _, _, _, _, _, _, _, _, _, _, _, _, _, _, rfl, q17, q18, fun h => g2_1 h, fun h => g4_2 h, fun h => g4_3 h, fun h => g5_4 h, fun h => g6_5 h, fun h => g8_7 h, fun h => g10_8 h, fun h => g10_9 h, fun _ => (hd ⟨10, .data⟩ (by simp) rfl), (by first | exact fun _ => rfl | exact fun _ => trivial | trivial), fun h => g13_6 h, fun h => g13_12 h, fun h => g15_13 h, fun h => g15_14 h, fun h => g16_15 h, hB, fun h => f0 h, fun h => f1 h, fun h => f2 h, fun h => f3 h, fun h => f4 h, fun h => f5 h, fun h => f6 h, fun h => f7 h, fun h => f8 h, fun h => f9 h, fun h => f10 h, fun _ => rfl, fun h => f12 h, fun h => f13 h, fun h => f14 h, fun h => f15 h, fun h => f16 h⟩
      · obtain ⟨s25, s26, s27, s28, s29, s30, s31, s32, s33, s34, s35, s36, s37, s38, s39, s40, s41, s0, Ab, cb, rfl, q0, q1, q2, q3, q4, q5, q6, q7, q8, q9, q10, q11, q12, q13, q14, q15, q16, q17, hO, hL, f18⟩ := hI
        exact lc hn q11
    · simp only [List.getElem?_toArray, List.getElem?_cons_zero, List.getElem?_cons_succ, Option.some.injEq] at ho
      subst ho
      rcases hI with hI | hI
      · obtain ⟨s25, s26, s27, s28, s29, s30, s31, s32, s33, s34, s35, s36, s37, s38, s39, s40, s41, s42, rfl, q17, q18, g2_1, g4_2, g4_3, g5_4, g6_5, g8_7, g10_8, g10_9, g11_10, g12_11, g13_6, g13_12, g15_13, g15_14, g16_15, hB, f0, f1, f2, f3, f4, f5, f6, f7, f8, f9, f10, f11, f12, f13, f14, f15, f16⟩ := hI
        obtain rfl := f11 (hd ⟨11, .data⟩ (by simp) rfl)
        have hc := (hB.cell (p := ⟨(ad.add (i * 2)).block, (ad.add (i * 2)).off + 1, none⟩) had).trans hd1
        refine wpOp_step rfl (fun K hK => ?_)
        go_simp
        refine hK _ _ (.inl ?_)
        unfold NpA
        simp only [flag_ne (i := 12) 0 (by decide), flag_ne (i := 12) 1 (by decide), flag_ne (i := 12) 2 (by decide), flag_ne (i := 12) 3 (by decide), flag_ne (i := 12) 4 (by decide), flag_ne (i := 12) 5 (by decide), flag_ne (i := 12) 6 (by decide), flag_ne (i := 12) 7 (by decide), flag_ne (i := 12) 8 (by decide), flag_ne (i := 12) 9 (by decide), flag_ne (i := 12) 10 (by decide), flag_ne (i := 12) 11 (by decide), flag_ne (i := 12) 13 (by decide), flag_ne (i := 12) 14 (by decide), flag_ne (i := 12) 15 (by decide), flag_ne (i := 12) 16 (by decide), flag_ne (i := 12) 17 (by decide), flag_ne (i := 12) 18 (by decide), lself hn]
        exact ⟨_, _, _, _, _, _, _, _, _, _, _, _, _, _, _, _, _, _, rfl, q17, q18, fun h => g2_1 h, fun h => g4_2 h, fun h => g4_3 h, fun h => g5_4 h, fun h => g6_5 h, fun h => g8_7 h, fun h => g10_8 h, fun h => g10_9 h, fun h => g11_10 h, fun _ => (hd ⟨11, .data⟩ (by simp) rfl), fun h => g13_6 h, (by first | exact fun _ => rfl | exact fun _ => trivial | trivial), fun h => g15_13 h, fun h => g15_14 h, fun h => g16_15 h, hB, fun h => f0 h, fun h => f1 h, fun h => f2 h, fun h => f3 h, fun h => f4 h, fun h => f5 h, fun h => f6 h, fun h => f7 h, fun h => f8 h, fun h => f9 h, fun h => f10 h, fun h => f11 h, fun _ => rfl, fun h => f13 h, fun h => f14 h, fun h => f15 h, fun h => f16 h⟩
      · obtain ⟨s25, s26, s27, s28, s29, s30, s31, s32, s33, s34, s35, s36, s37, s38, s39, s40, s41, s0, Ab, cb, rfl, q0, q1, q2, q3, q4, q5, q6, q7, q8, q9, q10, q11, q12, q13, q14, q15, q16, q17, hO, hL, f18⟩ := hI
        exact lc hn q12
    · simp only [List.getElem?_toArray, List.getElem?_cons_zero, List.getElem?_cons_succ, Option.some.injEq] at ho
      subst ho
      rcases hI with hI | hI
      · obtain ⟨s25, s26, s27, s28, s29, s30, s31, s32, s33, s34, s35, s36, s37, s38, s39, s40, s41, s42, rfl, q17, q18, g2_1, g4_2, g4_3, g5_4, g6_5, g8_7, g10_8, g10_9, g11_10, g12_11, g13_6, g13_12, g15_13, g15_14, g16_15, hB, f0, f1, f2, f3, f4, f5, f6, f7, f8, f9, f10, f11, f12, f13, f14, f15, f16⟩ := hI
        obtain rfl := f6 (hd ⟨6, .data⟩ (by simp) rfl)
        obtain rfl := f12 (hd ⟨12, .data⟩ (by simp) rfl)
        refine wpOp_step rfl (fun K hK => ?_)
        go_simp
        refine hK _ _ (.inl ?_)
        unfold NpA
        simp only [flag_ne (i := 13) 0 (by decide), flag_ne (i := 13) 1 (by decide), flag_ne (i := 13) 2 (by decide), flag_ne (i := 13) 3 (by decide), flag_ne (i := 13) 4 (by decide), flag_ne (i := 13) 5 (by decide), flag_ne (i := 13) 6 (by decide), flag_ne (i := 13) 7 (by decide), flag_ne (i := 13) 8 (by decide), flag_ne (i := 13) 9 (by decide), flag_ne (i := 13) 10 (by decide), flag_ne (i := 13) 11 (by decide), flag_ne (i := 13) 12 (by decide), flag_ne (i := 13) 14 (by decide), flag_ne (i := 13) 15 (by decide), flag_ne (i := 13) 16 (by decide), flag_ne (i := 13) 17 (by decide), flag_ne (i := 13) 18 (by decide), lself hn]
        exact ⟨_, _, _, _, _, _, _, _, _, _, _, _, _, _, _, _, _, _, rfl, q17, q18, fun h => g2_1 h, fun h => g4_2 h, fun h => g4_3 h, fun h => g5_4 h, fun h => g6_5 h, fun h => g8_7 h, fun h => g10_8 h, fun h => g10_9 h, fun h => g11_10 h, fun h => g12_11 h, fun _ => (hd ⟨6, .data⟩ (by simp) rfl), fun _ => (hd ⟨12, .data⟩ (by simp) rfl), (by first | exact fun _ => rfl | exact fun _ => trivial | trivial), fun h => g15_14 h, fun h => g16_15 h, hB, fun h => f0 h, fun h => f1 h, fun h => f2 h, fun h => f3 h, fun h => f4 h, fun h => f5 h, fun h => f6 h, fun h => f7 h, fun h => f8 h, fun h => f9 h, fun h => f10 h, fun h => f11 h, fun h => f12 h, fun _ => rfl, fun h => f14 h, fun h => f15 h, fun h => f16 h⟩
      · obtain ⟨s25, s26, s27, s28, s29, s30, s31, s32, s33, s34, s35, s36, s37, s38, s39, s40, s41, s0, Ab, cb, rfl, q0, q1, q2, q3, q4, q5, q6, q7, q8, q9, q10, q11, q12, q13, q14, q15, q16, q17, hO, hL, f18⟩ := hI
        exact lc hn q13
    · simp only [List.getElem?_toArray, List.getElem?_cons_zero, List.getElem?_cons_succ, Option.some.injEq] at ho
      subst ho
      rcases hI with hI | hI
      · obtain ⟨s25, s26, s27, s28, s29, s30, s31, s32, s33, s34, s35, s36, s37, s38, s39, s40, s41, s42, rfl, q17, q18, g2_1, g4_2, g4_3, g5_4, g6_5, g8_7, g10_8, g10_9, g11_10, g12_11, g13_6, g13_12, g15_13, g15_14, g16_15, hB, f0, f1, f2, f3, f4, f5, f6, f7, f8, f9, f10, f11, f12, f13, f14, f15, f16⟩ := hI
        refine wpOp_step rfl (fun K hK => ?_)
        go_simp
        refine hK _ _ (.inl ?_)
        unfold NpA
        simp only [flag_ne (i := 14) 0 (by decide), flag_ne (i := 14) 1 (by decide), flag_ne (i := 14) 2 (by decide), flag_ne (i := 14) 3 (by decide), flag_ne (i := 14) 4 (by decide), flag_ne (i := 14) 5 (by decide), flag_ne (i := 14) 6 (by decide), flag_ne (i := 14) 7 (by decide), flag_ne (i := 14) 8 (by decide), flag_ne (i := 14) 9 (by decide), flag_ne (i := 14) 10 (by decide), flag_ne (i := 14) 11 (by decide), flag_ne (i := 14) 12 (by decide), flag_ne (i := 14) 13 (by decide), flag_ne (i := 14) 15 (by decide), flag_ne (i := 14) 16 (by decide), flag_ne (i := 14) 17 (by decide), flag_ne (i := 14) 18 (by decide), lself hn]
        exact ⟨_, _, _, _, _, _, _, _, _, _, _, _, _, _, _, _, _, _, rfl, q17, q18, fun h => g2_1 h, fun h => g4_2 h, fun h => g4_3 h, fun h => g5_4 h, fun h => g6_5 h, fun h => g8_7 h, fun h => g10_8 h, fun h => g10_9 h, fun h => g11_10 h, fun h => g12_11 h, fun h => g13_6 h, fun h => g13_12 h, fun h => g15_13 h, (by first | exact fun _ => rfl | exact fun _ => trivial | trivial), fun h => g16_15 h, hB, fun h => f0 h, fun h => f1 h, fun h => f2 h, fun h => f3 h, fun h => f4 h, fun h => f5 h, fun h => f6 h, fun h => f7 h, fun h => f8 h, fun h => f9 h, fun h => f10 h, fun h => f11 h, fun h => f12 h, fun h => f13 h, fun _ => rfl, fun h => f15 h, fun h => f16 h⟩
      · obtain ⟨s25, s26, s27, s28, s29, s30, s31, s32, s33, s34, s35, s36, s37, s38, s39, s40, s41, s0, Ab, cb, rfl, q0, q1, q2, q3, q4, q5, q6, q7, q8, q9, q10, q11, q12, q13, q14, q15, q16, q17, hO, hL, f18⟩ := hI
        exact lc hn q14
    · simp only [List.getElem?_toArray, List.getElem?_cons_zero, List.getElem?_cons_succ, Option.some.injEq] at ho
      subst ho
      rcases hI with hI | hI
      · obtain ⟨s25, s26, s27, s28, s29, s30, s31, s32, s33, s34, s35, s36, s37, s38, s39, s40, s41, s42, rfl, q17, q18, g2_1, g4_2, g4_3, g5_4, g6_5, g8_7, g10_8, g10_9, g11_10, g12_11, g13_6, g13_12, g15_13, g15_14, g16_15, hB, f0, f1, f2, f3, f4, f5, f6, f7, f8, f9, f10, f11, f12, f13, f14, f15, f16⟩ := hI
        obtain rfl := f13 (hd ⟨13, .data⟩ (by simp) rfl)
        obtain rfl := f14 (hd ⟨14, .data⟩ (by simp) rfl)
        refine wpOp_step rfl (fun K hK => ?_)
        go_simp
        refine hK _ _ (.inl ?_)
        unfold NpA
        simp only [flag_ne (i := 15) 0 (by decide), flag_ne (i := 15) 1 (by decide), flag_ne (i := 15) 2 (by decide), flag_ne (i := 15) 3 (by decide), flag_ne (i := 15) 4 (by decide), flag_ne (i := 15) 5 (by decide), flag_ne (i := 15) 6 (by decide), flag_ne (i := 15) 7 (by decide), flag_ne (i := 15) 8 (by decide), flag_ne (i := 15) 9 (by decide), flag_ne (i := 15) 10 (by decide), flag_ne (i := 15) 11 (by decide), flag_ne (i := 15) 12 (by decide), flag_ne (i := 15) 13 (by decide), flag_ne (i := 15) 14 (by decide), flag_ne (i := 15) 16 (by decide), flag_ne (i := 15) 17 (by decide), flag_ne (i := 15) 18 (by decide), lself hn]
        exact ⟨_, _, _, _, _, _, _, _, _, _, _, _, _, _, _, _, _, _, rfl, q17, q18, fun h => g2_1 h, fun h => g4_2 h, fun h => g4_3 h, fun h => g5_4 h, fun h => g6_5 h, fun h => g8_7 h, fun h => g10_8 h, fun h => g10_9 h, fun h => g11_10 h, fun h => g12_11 h, fun h => g13_6 h, fun h => g13_12 h, fun _ => (hd ⟨13, .data⟩ (by simp) rfl), fun _ => (hd ⟨14, .data⟩ (by simp) rfl), (by first | exact fun _ => rfl | exact fun _ => trivial | trivial), hB, fun h => f0 h, fun h => f1 h, fun h => f2 h, fun h => f3 h, fun h => f4 h, fun h => f5 h, fun h => f6 h, fun h => f7 h, fun h => f8 h, fun h => f9 h, fun h => f10 h, fun h => f11 h, fun h => f12 h, fun h => f13 h, fun h => f14 h, fun _ => rfl, fun h => f16 h⟩
      · obtain ⟨s25, s26, s27, s28, s29, s30, s31, s32, s33, s34, s35, s36, s37, s38, s39, s40, s41, s0, Ab, cb, rfl, q0, q1, q2, q3, q4, q5, q6, q7, q8, q9, q10, q11, q12, q13, q14, q15, q16, q17, hO, hL, f18⟩ := hI
        exact lc hn q15
    · simp only [List.getElem?_toArray, List.getElem?_cons_zero, List.getElem?_cons_succ, Option.some.injEq] at ho
      subst ho
      rcases hI with hI | hI
      · obtain ⟨s25, s26, s27, s28, s29, s30, s31, s32, s33, s34, s35, s36, s37, s38, s39, s40, s41, s42, rfl, q17, q18, g2_1, g4_2, g4_3, g5_4, g6_5, g8_7, g10_8, g10_9, g11_10, g12_11, g13_6, g13_12, g15_13, g15_14, g16_15, hB, f0, f1, f2, f3, f4, f5, f6, f7, f8, f9, f10, f11, f12, f13, f14, f15, f16⟩ := hI
        obtain rfl := f15 (hd ⟨15, .data⟩ (by simp) rfl)
        refine wpOp_step rfl (fun K hK => ?_)
        go_simp
        refine hK _ _ (.inl ?_)
        unfold NpA
        simp only [flag_ne (i := 16) 0 (by decide), flag_ne (i := 16) 1 (by decide), flag_ne (i := 16) 2 (by decide), flag_ne (i := 16) 3 (by decide), flag_ne (i := 16) 4 (by decide), flag_ne (i := 16) 5 (by decide), flag_ne (i := 16) 6 (by decide), flag_ne (i := 16) 7 (by decide), flag_ne (i := 16) 8 (by decide), flag_ne (i := 16) 9 (by decide), flag_ne (i := 16) 10 (by decide), flag_ne (i := 16) 11 (by decide), flag_ne (i := 16) 12 (by decide), flag_ne (i := 16) 13 (by decide), flag_ne (i := 16) 14 (by decide), flag_ne (i := 16) 15 (by decide), flag_ne (i := 16) 17 (by decide), flag_ne (i := 16) 18 (by decide), lself hn]
        exact ⟨_, _, _, _, _, _, _, _, _, _, _, _, _, _, _, _, _, _, rfl, q17, q18, fun h => g2_1 h, fun h => g4_2 h, fun h => g4_3 h, fun h => g5_4 h, fun h => g6_5 h, fun h => g8_7 h, fun h => g10_8 h, fun h => g10_9 h, fun h => g11_10 h, fun h => g12_11 h, fun h => g13_6 h, fun h => g13_12 h, fun h => g15_13 h, fun h => g15_14 h, fun _ => (hd ⟨15, .data⟩ (by simp) rfl), ba hB, fun h => f0 h, fun h => f1 h, fun h => f2 h, fun h => f3 h, fun h => f4 h, fun h => f5 h, fun h => f6 h, fun h => f7 h, fun h => f8 h, fun h => f9 h, fun h => f10 h, fun h => f11 h, fun h => f12 h, fun h => f13 h, fun h => f14 h, fun h => f15 h, fun _ => ⟨_, _, rfl, rfl, fun _ => ⟨_, rfl, (by simp), six_new _ _ _ _ _ _ _ _⟩⟩⟩
      · obtain ⟨s25, s26, s27, s28, s29, s30, s31, s32, s33, s34, s35, s36, s37, s38, s39, s40, s41, s0, Ab, cb, rfl, q0, q1, q2, q3, q4, q5, q6, q7, q8, q9, q10, q11, q12, q13, q14, q15, q16, q17, hO, hL, f18⟩ := hI
        exact lc hn q16
    · simp only [List.getElem?_toArray, List.getElem?_cons_zero, List.getElem?_cons_succ, Option.some.injEq] at ho
      subst ho
      rcases hI with hI | hI
      · obtain ⟨s25, s26, s27, s28, s29, s30, s31, s32, s33, s34, s35, s36, s37, s38, s39, s40, s41, s42, rfl, q17, q18, g2_1, g4_2, g4_3, g5_4, g6_5, g8_7, g10_8, g10_9, g11_10, g12_11, g13_6, g13_12, g15_13, g15_14, g16_15, hB, f0, f1, f2, f3, f4, f5, f6, f7, f8, f9, f10, f11, f12, f13, f14, f15, f16⟩ := hI
        have b0 := (hd ⟨0, .data⟩ (by simp) rfl)
        have b16 := (hd ⟨16, .data⟩ (by simp) rfl)
        have b15 := g16_15 b16
        have b13 := g15_13 b15
        have b14 := g15_14 b15
        have b6 := g13_6 b13
        have b12 := g13_12 b13
        have b5 := g6_5 b6
        have b11 := g12_11 b12
        have b4 := g5_4 b5
        have b10 := g11_10 b11
        have b2 := g4_2 b4
        have b3 := g4_3 b4
        have b8 := g10_8 b10
        have b9 := g10_9 b10
        have b1 := g2_1 b2
        have b7 := g8_7 b8
        obtain rfl := f0 b0
        obtain ⟨Az, cz, rfl, hz⟩ := f16 b16
        obtain ⟨i6, hi6', hz60, hz61, hz62⟩ := info_parts node_info
        refine wpOp_step rfl (fun K hK => ?_)
        refine wp_append_any _ _ _ _ rfl base 83 i6 _ 6 96 Tryd.underlying28 hi6' hz60 hz61 hz62 rfl (by omega) (.slice A n c) n (rowN M) rfl (own_below hO hB) w9.heap.size Az 1 cz _ rfl (RdP.reads hz (fun b hb => hb)) (by intro u hu; simp at hu; rcases hu with rfl | rfl | rfl | rfl | rfl | rfl <;> rfl) (by simp only [maxLen]; omega) (by omega) (Nat.le_trans hbase hB.size) ?_
        intro v5 w5 hown5 hg5 hat5
        rw [show rowN M ++ [.int .i64 3, .string (ba' nm), .string (ba' vl), .slice none 0 0, .slice none 0 0, .int .i64 (own : Int)] = rowN (M ++ [(attrT (nm, vl), own)]) from (rowN_snoc M (attrT (nm, vl), own)).symm] at hown5
        obtain ⟨Ab, cb, rfl⟩ := own_slice hown5
        have hL5 : Along A w Ab w5 := (Along.of_below hB).trans (Along.of_grown hg5 hat5)
        refine hK _ _ (.inr ?_)
        unfold NpB
        simp only [flag_ne (i := 17) 0 (by decide), flag_ne (i := 17) 1 (by decide), flag_ne (i := 17) 2 (by decide), flag_ne (i := 17) 3 (by decide), flag_ne (i := 17) 4 (by decide), flag_ne (i := 17) 5 (by decide), flag_ne (i := 17) 6 (by decide), flag_ne (i := 17) 7 (by decide), flag_ne (i := 17) 8 (by decide), flag_ne (i := 17) 9 (by decide), flag_ne (i := 17) 10 (by decide), flag_ne (i := 17) 11 (by decide), flag_ne (i := 17) 12 (by decide), flag_ne (i := 17) 13 (by decide), flag_ne (i := 17) 14 (by decide), flag_ne (i := 17) 15 (by decide), flag_ne (i := 17) 16 (by decide), flag_ne (i := 17) 18 (by decide), lself hn]
        exact ⟨_, _, _, _, _, _, _, _, _, _, _, _, _, _, _, _, _, _, Ab, cb, rfl, b0, b1, b2, b3, b4, b5, b6, b7, b8, b9, b10, b11, b12, b13, b14, b15, b16, (by first | rfl | trivial), hown5, hL5, fun h => absurd h (by simp [q18])⟩
      · obtain ⟨s25, s26, s27, s28, s29, s30, s31, s32, s33, s34, s35, s36, s37, s38, s39, s40, s41, s0, Ab, cb, rfl, q0, q1, q2, q3, q4, q5, q6, q7, q8, q9, q10, q11, q12, q13, q14, q15, q16, q17, hO, hL, f18⟩ := hI
        exact lc hn q17
    · simp only [List.getElem?_toArray, List.getElem?_cons_zero, List.getElem?_cons_succ, Option.some.injEq] at ho
      subst ho
      rcases hI with hI | hI
      · obtain ⟨s25, s26, s27, s28, s29, s30, s31, s32, s33, s34, s35, s36, s37, s38, s39, s40, s41, s42, rfl, q17, q18, g2_1, g4_2, g4_3, g5_4, g6_5, g8_7, g10_8, g10_9, g11_10, g12_11, g13_6, g13_12, g15_13, g15_14, g16_15, hB, f0, f1, f2, f3, f4, f5, f6, f7, f8, f9, f10, f11, f12, f13, f14, f15, f16⟩ := hI
        have := hd ⟨17, .data⟩ (by simp) rfl
        simp [q17] at this
      · obtain ⟨s25, s26, s27, s28, s29, s30, s31, s32, s33, s34, s35, s36, s37, s38, s39, s40, s41, s0, Ab, cb, rfl, q0, q1, q2, q3, q4, q5, q6, q7, q8, q9, q10, q11, q12, q13, q14, q15, q16, q17, hO, hL, f18⟩ := hI
        refine wpOp_step rfl (fun K hK => ?_)
        go_simp
        refine hK _ _ (.inr ?_)
        unfold NpB
        simp only [flag_ne (i := 18) 0 (by decide), flag_ne (i := 18) 1 (by decide), flag_ne (i := 18) 2 (by decide), flag_ne (i := 18) 3 (by decide), flag_ne (i := 18) 4 (by decide), flag_ne (i := 18) 5 (by decide), flag_ne (i := 18) 6 (by decide), flag_ne (i := 18) 7 (by decide), flag_ne (i := 18) 8 (by decide), flag_ne (i := 18) 9 (by decide), flag_ne (i := 18) 10 (by decide), flag_ne (i := 18) 11 (by decide), flag_ne (i := 18) 12 (by decide), flag_ne (i := 18) 13 (by decide), flag_ne (i := 18) 14 (by decide), flag_ne (i := 18) 15 (by decide), flag_ne (i := 18) 16 (by decide), flag_ne (i := 18) 17 (by decide), lself hn]
        exact ⟨_, _, _, _, _, _, _, _, _, _, _, _, _, _, _, _, _, _, Ab, cb, rfl, q0, q1, q2, q3, q4, q5, q6, q7, q8, q9, q10, q11, q12, q13, q14, q15, q16, q17, hO, hL, fun _ => rfl⟩
  · intro l Pa W hall hI
    rcases hI with hI | hI
    · obtain ⟨s25, s26, s27, s28, s29, s30, s31, s32, s33, s34, s35, s36, s37, s38, s39, s40, s41, s42, rfl, q17, q18, g2_1, g4_2, g4_3, g5_4, g6_5, g8_7, g10_8, g10_9, g11_10, g12_11, g13_6, g13_12, g15_13, g15_14, g16_15, hB, f0, f1, f2, f3, f4, f5, f6, f7, f8, f9, f10, f11, f12, f13, f14, f15, f16⟩ := hI
      have := hall 17 (by decide)
      simp [q17] at this
    · obtain ⟨s25, s26, s27, s28, s29, s30, s31, s32, s33, s34, s35, s36, s37, s38, s39, s40, s41, s0, Ab, cb, rfl, q0, q1, q2, q3, q4, q5, q6, q7, q8, q9, q10, q11, q12, q13, q14, q15, q16, q17, hO, hL, f18⟩ := hI
      obtain rfl := f18 (hall 18 (by decide))
      exact hQ _ _ _ _ _ _ _ _ _ _ _ _ _ _ _ _ _ _ _ _ hO hL
end Go.Proofs.YtcmlfkoeajpliaaDoor
namespace Go.Proofs.YtcmlfkoeajpliaaDoor
open Go.RowKit Go.Lib Go.Proofs
set_option maxRecDepth 100000
set_option maxHeartbeats 8000000
def LayRefR (t : Tr) : Prop := ∀ (P : Nat → Prop) (w : World) (base : Nat) (A : Option Addr) (c : Nat) (M : List (Tr × Nat)) (p : Nat), w.ownsRow base 83 6 (.slice A M.length c) M.length (rowN M) → t.In P w → Off P A w → t.pl.fit → M.length + t.pl.size ≤ 1048576 → base ≤ w.heap.size →
    Calls Tryd.prog 21 #[.slice A M.length c, t.v, .int .i64 (p : Int)] w fun e w' => ∃ A' c', e = .returned (.slice A' (M.length + t.pl.size) c') ∧ w'.ownsRow base 83 6 (.slice A' (M.length + t.pl.size) c') (M.length + t.pl.size) (rowN (M ++ t.nodes M.length p)) ∧ Along A w A' w'
def attrsT (ps : List (List UInt8 × List UInt8)) (own : Nat) : List (Tr × Nat) := ps.map fun q => (attrT q, own)
theorem attrsT_take (ps : List (List UInt8 × List UInt8)) (own i : Nat) (q : List UInt8 × List UInt8) (h : ps[i]? = some q) : attrsT (ps.take (i + 1)) own = attrsT (ps.take i) own ++ [(attrT q, own)] := by
  rw [List.take_add_one, h]; unfold attrsT; rw [List.map_append]; rfl
theorem attrsT_len (ps : List (List UInt8 × List UInt8)) (own : Nat) : (attrsT ps own).length = ps.length := by unfold attrsT; rw [List.length_map]
theorem layRef_any : ∀ t : Tr, LayRefR t := by
  intro t
  induction t using Tr.ind with
  | h k n v A0 ac ps K kc ks ih =>
    intro P w base A c M p hO hin hoff hfit hsz hbase
    have hF := fit_fields hfit
    have hkid := fit_kid hfit
    have hin0 := hin
    rw [Tr.In] at hin
    obtain ⟨hA, hK, hL⟩ := hin
    have hsz2 : M.length + (1 + ps.length + sizeL (plL ks)) ≤ 1048576 := by rw [Tr.pl, PT.size] at hsz; exact hsz
    have hnk6 : ks.length ≤ 1048576 := hF.2.2.2
    rw [Tr.pl, PT.size, Tr.nodes]
    obtain ⟨ln, hln⟩ : ∃ ln, M.length = ln := ⟨_, rfl⟩
    obtain ⟨np, hnp⟩ : ∃ np, ps.length = np := ⟨_, rfl⟩
    obtain ⟨nk, hnk⟩ : ∃ nk, ks.length = nk := ⟨_, rfl⟩
    show Calls Tryd.prog 21 #[.slice A M.length c, .agg #[.int .i64 k, .string (ba' n), .string (ba' v), .slice A0 ps.length ac, .slice K ks.length kc], .int .i64 (p : Int)] w _
    obtain ⟨TT, hTT⟩ : ∃ TT, (Tr.mk k n v A0 ac ps K kc ks) = TT := ⟨_, rfl⟩
    rw [hln, hnp, hnk, hTT]
    rw [hln] at hO
    rw [hnp, hln] at hsz2
    rw [hnk] at hnk6
    obtain ⟨i6, hi6, hz60, hz61, hz62⟩ := info_parts node_info
    have HO := Lib.hid hO; have HA := Lib.hid hA; have HK := Lib.hid hK; have HL := Lib.hid hL; have HOFF := Lib.hid hoff; have IH := Lib.hid ih; have HB := Lib.hid hkid; have HNP := Lib.hid hnp; have HNK := Lib.hid hnk; have HLN := Lib.hid hln; have HSZ2 := Lib.hid hsz2; have HTT := Lib.hid hTT
    have hg0 : ∀ b, (Value.slice A ln c).ownBlock = some b → b < w.heap.size := fun b hb => (own_lt hO hb).2
    have HG0 := Lib.hid hg0
    clear hO hA hK hL hoff ih hkid hnp hnk hln hF hfit hsz hin0 hg0 hTT
    go_enter Tryd.func21, Tryd.ntmps21
    go_wp2_with (first
      | (at_builtin
         go_must (refine wpList_append_any _ rfl (.tmp 10) (.tmp 14) _ rfl base 83 i6 _ 6 96 Tryd.underlying28 hi6 hz60 hz61 hz62 rfl (by omega) (.slice A ln c) ln (rowN M) rfl ((HO.out.alloc _).alloc _) (w.heap.size + 2) (some ⟨w.heap.size + 1, 0, none⟩) 1 1 [.int .i64 k, .string (ba' n), .string (ba' v), .slice A0 np ac, .slice K nk kc, .int .i64 (p : Int)] rfl ⟨rfl, fun _ => ⟨_, rfl, by simp, by first | exact six_new _ _ _ _ _ _ _ _ | (have := six_new (w.alloc (.cells #[.int .i64 k, .string (ba' n), .string (ba' v), .slice A0 np ac, .slice K nk kc] 33)) (.int .i64 k) (.string (ba' n)) (.string (ba' v)) (.slice A0 np ac) (.slice K nk kc) (.int .i64 (p : Int)) 83; simpa using this)⟩⟩ (by intro u hu; simp at hu; rcases hu with rfl | rfl | rfl | rfl | rfl | rfl <;> rfl) (by simp only [maxLen]; omega) (by omega) (by simp; omega) ?_)
         intro v1 w1 hown hg hat
         obtain ⟨A1, c1, rfl⟩ := own_slice hown
         have HOWN := Lib.hid hown
         have HG := Lib.hid hg
         have HAT := Lib.hid hat
         clear hown hg hat))
    have hg := HG.out
    have hat := HAT.out
    have hL1 : Along A w A1 w1 := (Along.of_below (ba (ba (Below.refl _ _)))).trans (Along.of_grown hg hat)
    have hbk : Blk w1 w.heap.size 33 #[.int .i64 k, .string (ba' n), .string (ba' v), .slice A0 np ac, .slice K nk kc] := ((Blk.new _ _ _).alloc _).grown hg (fun e => by have := HG0.out _ e.symm; omega)
    have hrw : rowN M ++ [.int .i64 k, .string (ba' n), .string (ba' v), .slice A0 np ac, .slice K nk kc, .int .i64 (p : Int)] = rowN (M ++ [(TT, p)]) := by
      rw [rowN_snoc, ← HTT.out]
      show _ = rowN M ++ [.int .i64 k, .string (ba' n), .string (ba' v), .slice A0 ps.length ac, .slice K ks.length kc, .int .i64 (p : Int)]
      rw [HNP.out, HNK.out]
    have hown := HOWN.out
    rw [hrw] at hown
    have hne1 : blkOf A1 ≠ some w.heap.size := by
      intro e
      rw [own_blk, own_blk] at hat
      rcases hat with h | h
      · rw [h] at e; have := HG0.out w.heap.size (by rw [own_blk]; exact e); omega
      · rw [h] at e; have := Option.some.inj e; simp at this; omega
    have hb3 : w1.cell? ⟨w.heap.size, 3, none⟩ = some (.slice A0 np ac) := hbk.cell 3
    have hb4 : w1.cell? ⟨w.heap.size, 4, none⟩ = some (.slice K nk kc) := hbk.cell 4
    have hz1 := hbk.lt
    have HO1 := Lib.hid hown; have HL1 := Lib.hid hL1; have HNE1 := Lib.hid hne1
    clear hown hg hat hL1 hbk hrw hne1 HOWN HG HAT
    go_loopw [0, 8] (fun s0 s8 wx => ∃ (i : Nat) (A' : Option Addr) (c' : Nat), s0 = .slice A' (ln + 1 + i) c' ∧ s8 = .int .i64 (i : Int) ∧ i ≤ np ∧ Hid (wx.ownsRow base 83 6 (.slice A' (ln + 1 + i) c') (ln + 1 + i) (rowN (M ++ [(TT, p)] ++ attrsT (ps.take i) (ln + 1)))) ∧ Hid (Along A w A' wx) ∧ Hid (blkOf A' ≠ some w.heap.size) ∧ wx.cell? ⟨w.heap.size, 3, none⟩ = some (.slice A0 np ac) ∧ wx.cell? ⟨w.heap.size, 4, none⟩ = some (.slice K nk kc) ∧ w.heap.size < wx.heap.size) (fun _ s8 _ => np - (intOf s8).toNat)
    case atStart =>
      refine ⟨0, A1, c1, rfl, rfl, by omega, ?_, HL1, HNE1, hb3, hb4, hz1⟩
      rw [List.take_zero]
      show Hid (w1.ownsRow base 83 6 _ _ (rowN (M ++ [(TT, p)] ++ [])))
      rw [List.append_nil]
      exact HO1
    case round =>
      obtain ⟨i, A6, c6, rfl, rfl, hi, hO6, hL6, hN6, hb3, hb4, hz6⟩ := hrel
      clear HO1 HL1 HNE1 hz1
      by_cases hlt : i < np
      · have g0 : decide ((i : Int) < (np : Int)) = true := by first | (simp; done) | (simp; omega)
        have g1 : decide (i < np) = true := by simpa using hlt
        have hil : i < ps.length := by rw [HNP.out]; exact hlt
        obtain ⟨q, hq⟩ : ∃ q, ps[i]? = some q := ⟨_, List.getElem?_eq_getElem hil⟩
        have hra := HA.out.along HOFF.out hL6.out
        have hoff6 := HOFF.out.along hL6.out
        rw [HNP.out] at hra
        obtain ⟨ad, rfl, hPad, d0, d1⟩ := pair_at hra hq hlt
        have hadl : (ad.add (i * 2)).block < wr.heap.size := by rw [block_of_add]; exact (hoff6 _ hPad).1
        have HQ := Lib.hid (attrsT_take ps (ln + 1) i q hq)
        have hbase6 : base ≤ wr.heap.size := by omega
        have hnp6 : np ≤ 1048576 := by omega
        have hln6 : ln + 1 + i ≤ 1048576 := by omega
        obtain ⟨q1, q2⟩ := q
        clear hra hoff6 hil hq hPad
        go_upto_region 6 with fail
        refine pair_region wr w.heap.size (ln + 1 + i) c6 np ac i (ln + 1) A6 ad q1 q2 base (M ++ [(TT, p)] ++ attrsT (ps.take i) (ln + 1)) _ _ _ _ _ _ _ _ _ _ _ _ _ _ _ _ _ _ _ _ _ _ _ _ _ _ _ _ _ _ _ _ _ _ _ _ _ _ _ _ _ _ _ _ _ _ _ _ _ _ _ _ _ _ _ _ hO6.out hbase6 hln6 hlt hnp6 hb3 hz6 hadl d0 d1 ?_
        intro W A7 c7 _ _ _ _ _ _ _ _ _ _ _ _ _ _ _ _ _ hO7 hL7
        rw [show ((ln + 1 : Nat) : Int) = (ln : Int) + 1 by omega]
        have hcm : ∀ o, W.cell? ⟨w.heap.size, o, none⟩ = wr.cell? ⟨w.heap.size, o, none⟩ := fun o => hL7.cell (p := ⟨w.heap.size, o, none⟩) hz6 hN6.out
        have hb3' := (hcm 3).trans hb3
        have hb4' := (hcm 4).trans hb4
        have hz7 : w.heap.size < W.heap.size := Nat.lt_of_lt_of_le hz6 hL7.2.2.2.1
        rw [List.append_assoc (M ++ [(TT, p)]), ← HQ.out] at hO7
        have HO7 := Lib.hid hO7; have HL7 := Lib.hid (hL6.out.trans hL7); have HN7 := Lib.hid (hL7.2.2.2.2 w.heap.size hz6 hN6.out).2
        clear hcm hO7 hL7 hb3 hb4 hz6 d0 d1 hadl
        go_wp2
        go_roundw
        case rel => exact ⟨i + 1, A7, c7, rfl, by go_num, by omega, HO7, HL7, HN7, hb3', hb4', hz7⟩
        case measure => simp [intOf]; omega
      · obtain rfl : i = np := by omega
        have g0 : decide (((i : Nat) : Int) < ((i : Nat) : Int)) = false := by simp
        have g1 : decide (i < i) = false := by simp
        have hO6' : Hid (wr.ownsRow base 83 6 (.slice A6 (ln + 1 + i) c6) (ln + 1 + i) (rowN (M ++ [(TT, p)] ++ attrsT ps (ln + 1)))) := by
          have := hO6.out
          rw [List.take_of_length_le (by rw [HNP.out]; exact Nat.le_refl _)] at this
          exact Lib.hid this
        clear hO6
        clear g0 g1
        go_wp2
        go_loopw [0, 9] (fun s0 s9 wx => ∃ (j : Nat) (A' : Option Addr) (c' l' : Nat), s0 = .slice A' l' c' ∧ s9 = .int .i64 (j : Int) ∧ j ≤ nk ∧ Hid (l' = ln + 1 + i + sizeL (plL (ks.take j))) ∧ Hid (wx.ownsRow base 83 6 (.slice A' l' c') l' (rowN (M ++ [(TT, p)] ++ attrsT ps (ln + 1) ++ nodesL (ks.take j) (ln + 1 + i) (ln + 1)))) ∧ Hid (Along A w A' wx) ∧ Hid (blkOf A' ≠ some w.heap.size) ∧ wx.cell? ⟨w.heap.size, 4, none⟩ = some (.slice K nk kc) ∧ w.heap.size < wx.heap.size) (fun _ s9 _ => nk - (intOf s9).toNat)
        case atStart =>
          refine ⟨0, A6, c6, _, rfl, rfl, by omega, Lib.hid ?_, Lib.hid ?_, hL6, hN6, hb4, hz6⟩
          · rw [List.take_zero, plL, sizeL]; rfl
          · rw [List.take_zero, nodesL, List.append_nil]; exact hO6'.out
        case round =>
          clear hL6 hN6 hb4 hz6 hO6'
          obtain ⟨j, A8, c8, l8, rfl, rfl, hj, hl8, hO8, hL8, hN8, hb4, hz8⟩ := hrel
          by_cases hlt2 : j < nk
          · have g0 : decide ((j : Int) < (nk : Int)) = true := by first | (simp; done) | (simp; omega)
            have g1 : decide (j < nk) = true := by simpa using hlt2
            have hjl : j < ks.length := by rw [HNK.out]; exact hlt2
            obtain ⟨t, ht⟩ : ∃ t, ks[j]? = some t := ⟨_, List.getElem?_eq_getElem hjl⟩
            have htm := List.mem_of_getElem? ht
            have hoff8 := HOFF.out.along hL8.out
            have hka := HK.out.along HOFF.out hL8.out
            rw [HNK.out] at hka
            have hint := (inL_iff.1 HL.out t htm).along HOFF.out hL8.out
            have hs1 := sizeL_take (plL ks) j t.pl (plL_at ht)
            have hs2 := sizeL_take_le (plL ks) (j + 1)
            have hpe : ∀ q, plL (ks.take q) = (plL ks).take q := fun q => by rw [plL_map, plL_map, List.map_take]
            have hll : (M ++ [(TT, p)] ++ attrsT ps (ln + 1) ++ nodesL (ks.take j) (ln + 1 + i) (ln + 1)).length = l8 := by
              rw [List.length_append, List.length_append, List.length_append, attrsT_len, nodesL_len, HLN.out, HNP.out, hl8.out]; simp
            have hbase8 : base ≤ wr.heap.size := by omega
            have HC := IH.out t htm P wr base A8 c8 (M ++ [(TT, p)] ++ attrsT ps (ln + 1) ++ nodesL (ks.take j) (ln + 1 + i) (ln + 1)) (ln + 1) (by rw [hll]; exact hO8.out) hint hoff8 (HB.out t htm) (by rw [hll, hl8.out, hpe]; have := HSZ2.out; omega) hbase8
            rw [hll] at HC
            have hnt := nodesL_take ks j t ht (ln + 1 + i) (ln + 1)
            have hl9 : l8 + t.pl.size = ln + 1 + i + sizeL (plL (ks.take (j + 1))) := by rw [hl8.out, hpe, hpe, hs1]; omega
            have HNT : Hid (M ++ [(TT, p)] ++ attrsT ps (ln + 1) ++ nodesL (ks.take j) (ln + 1 + i) (ln + 1) ++ t.nodes l8 (ln + 1) = M ++ [(TT, p)] ++ attrsT ps (ln + 1) ++ nodesL (ks.take (j + 1)) (ln + 1 + i) (ln + 1)) := Lib.hid (by rw [hnt, ← hl8.out]; simp)
            rw [HNT.out, show ((ln + 1 : Nat) : Int) = (ln : Int) + 1 by omega] at HC
            obtain ⟨l9, hl9e⟩ : ∃ l9, l8 + t.pl.size = l9 := ⟨_, rfl⟩
            rw [hl9e] at HC hl9
            have HL9 := Lib.hid hl9
            obtain ⟨k', n', v', A', ac', ps', K', kc', ks'⟩ := t
            obtain ⟨ad, rfl, hPad, d0, d1, d2, d3, d4⟩ := kid_at hka ht hlt2
            have hadl : (ad.add (j * 5)).block < wr.heap.size := by rw [block_of_add]; exact (hoff8 _ hPad).1
            simp only [Tr.v] at HC
            obtain ⟨np', hnp'⟩ : ∃ q, ps'.length = q := ⟨_, rfl⟩
            obtain ⟨nk', hnk'⟩ : ∃ q, ks'.length = q := ⟨_, rfl⟩
            rw [hnp', hnk'] at HC
            rw [hnp'] at d3
            rw [hnk'] at d4
            have HCC := Lib.hid HC
            clear hjl ht htm hoff8 hka hint hs1 hs2 hpe hll HC hnt hl9 hPad hnp' hnk' hl9e
            go_wp2_with fail
            refine HCC.out.mono ?_
            rintro e w9 ⟨A9, c9, rfl, hO9, hL9⟩
            have hb4' := (hL9.cell (p := ⟨w.heap.size, 4, none⟩) hz8 hN8.out).trans hb4
            have hz9 : w.heap.size < w9.heap.size := Nat.lt_of_lt_of_le hz8 hL9.2.2.2.1
            have HO9 := Lib.hid hO9; have HLL := Lib.hid (hL8.out.trans hL9); have HN9 := Lib.hid (hL9.2.2.2.2 w.heap.size hz8 hN8.out).2
            clear hO9 hL9 hb4 d0 d1 d2 d3 d4 hadl
            go_wp2
            go_roundw
            case rel => exact ⟨j + 1, A9, c9, l9, rfl, by go_num, by omega, HL9, HO9, HLL, HN9, hb4', hz9⟩
            case measure => simp [intOf]; omega
          · obtain rfl : j = nk := by omega
            have g0 : decide (((j : Nat) : Int) < ((j : Nat) : Int)) = false := by simp
            have g1 : decide (j < j) = false := by simp
            have hle : ks.take j = ks := List.take_of_length_le (by rw [HNK.out]; exact Nat.le_refl _)
            have HE := Lib.hid hle
            clear hle
            go_wp2
            go_ret
            have hl := hl8.out
            have ho := hO8.out
            rw [HE.out] at hl ho
            have e1 : ln + (1 + i + sizeL (plL ks)) = l8 := by omega
            have e2 : M ++ [(TT, p)] ++ attrsT ps (ln + 1) ++ nodesL ks (ln + 1 + i) (ln + 1) = M ++ (TT, p) :: (ps.map (fun q => (attrT q, ln + 1)) ++ nodesL ks (ln + 1 + i) (ln + 1)) := by unfold attrsT; simp
            rw [e1]
            rw [e2] at ho
            exact ⟨A8, c8, rfl, ho, hL8.out⟩
end Go.Proofs.YtcmlfkoeajpliaaDoor
