/- A tree that grows by a pair and by a kid. No condition beyond what the theorems state. -/
import Derived.Test.YtcmlfkoeajpliaaDoorStore
import Derived.Test.YtcmlfkoeajpliaaDoorRefCopy
import Derived.Deep.RegionWith
import Derived.Deep.DeepMust
import Derived.Test.YtcmlfkoeajpliaaDoorPieces
namespace Go.Proofs.YtcmlfkoeajpliaaDoor
open Go.RowKit Go.Lib
set_option maxRecDepth 100000
/-- Below a place, beside one block, all is as it was. -/
def Keep (H gt : Nat) (w w' : World) : Prop := w'.os = w.os ∧ w'.tape = w.tape ∧ w'.output = w.output ∧ w.heap.size ≤ w'.heap.size ∧ ∀ b, b < H → b ≠ gt → w'.heap[b]? = w.heap[b]?
theorem Keep.refl (H gt : Nat) (w : World) : Keep H gt w w := ⟨rfl, rfl, rfl, Nat.le_refl _, fun _ _ _ => rfl⟩
theorem Keep.trans {H gt : Nat} {w w1 w2 : World} (h : Keep H gt w w1) (k : Keep H gt w1 w2) : Keep H gt w w2 :=
  ⟨k.1.trans h.1, k.2.1.trans h.2.1, k.2.2.1.trans h.2.2.1, Nat.le_trans h.2.2.2.1 k.2.2.2.1, fun b hb hg => (k.2.2.2.2 b hb hg).trans (h.2.2.2.2 b hb hg)⟩
theorem Keep.below {H gt B : Nat} {w w1 w2 : World} (h : Keep H gt w w1) (hb : Below B w1 w2) (hH : H ≤ B) : Keep H gt w w2 :=
  h.trans ⟨hb.os, hb.tape, hb.output, hb.size, fun b hl _ => hb.block b (by omega)⟩
theorem Keep.alloc {H gt : Nat} {w w1 : World} (h : Keep H gt w w1) (hH : H ≤ w1.heap.size) (o : Obj) : Keep H gt w (w1.alloc o) :=
  h.below (B := w1.heap.size) ((Below.refl _ _).alloc (Nat.le_refl _) _) hH
theorem Keep.grown {H gt : Nat} {w w1 w2 : World} {row : Option Nat} (h : Keep H gt w w1) (hg : w1.grownBy w2 row) (hH : H ≤ w1.heap.size) (hr : ∀ b, row = some b → H ≤ b) : Keep H gt w w2 :=
  h.trans ⟨hg.os, hg.tape, hg.output, hg.size, fun b hl _ => hg.block b (by omega) (fun e => by have := hr b e.symm; omega)⟩
theorem Keep.set {H gt : Nat} {w w1 : World} (h : Keep H gt w w1) (p : Addr) (v : Value) (hp : p.block = gt ∨ H ≤ p.block) : Keep H gt w (w1.setCell p v) :=
  h.trans ⟨rfl, rfl, rfl, by simp, fun b hl hg => Below.heap_setCell _ _ _ _ (by rcases hp with e | e <;> omega)⟩
theorem Keep.drew {H gt : Nat} {w w1 : World} (h : Keep H gt w w1) : Keep H gt w w1.drew := h
theorem Keep.cell {H gt : Nat} {w w1 : World} (h : Keep H gt w w1) {p : Addr} (hp : p.block < H) (hg : p.block ≠ gt) : w1.cell? p = w.cell? p := World.cell?_of_block (h.2.2.2.2 _ hp hg)
theorem StoreAt.keep {H gt : Nat} {w w' : World} {sb lim : Nat} {A : Option Addr} {c : Nat} {L : List En} (h : StoreAt w sb lim A c L) (k : Keep H gt w w') (hs : sb < H) (hsg : sb ≠ gt) (hA : ∀ b, blkOf A = some b → b < H ∧ b ≠ gt) : StoreAt w' sb lim A c L := by
  obtain ⟨h0, h1, h2, h3, h4⟩ := h
  refine ⟨Nat.lt_of_lt_of_le h0 k.2.2.2.1, (k.cell hs hsg).trans h1, (k.cell hs hsg).trans h2, (World.frozen?_of_block (a := ⟨sb, 1, none⟩) (k.2.2.2.2 sb hs hsg)).trans h3, own_keep h4 fun b hb => ?_⟩
  rw [own_blk] at hb
  exact k.2.2.2.2 b (hA b hb).1 (hA b hb).2
/-- Trees in the blocks above a place that hold no row that grows: a row grows, a call makes memory, a cell of a row is written. -/
theorem KB.in_grown {H : Nat} {v4 v5 : Value} {wr w5 : World} {L : List Tr} (h : InL (KB H v4 wr) wr L) (hg : wr.grownBy w5 v4.ownBlock) (hat : v5.ownBlock = v4.ownBlock ∨ v5.ownBlock = some wr.heap.size) : InL (KB H v5 w5) w5 L :=
  inL_iff.2 fun t ht => (inL_iff.1 h t ht).keep (fun b hb => ⟨hb.1, by have := hb.2.1; have := hg.size; omega, fun e => by
      rcases hat with e' | e'
      · exact hb.2.2 (e' ▸ e)
      · rw [e'] at e
        have := Option.some.inj e
        have := hb.2.1
        omega⟩) (fun p hp => World.cell?_of_block (hg.block p.block hp.2.1 (fun e => hp.2.2 e.symm)))
theorem KB.rd_grown {H np s : Nat} {v4 v5 : Value} {wr w5 : World} {A : Option Addr} {xs : List Value} (h : RdP (KB H v4 wr) wr s A np xs) (hg : wr.grownBy w5 v4.ownBlock) (hat : v5.ownBlock = v4.ownBlock ∨ v5.ownBlock = some wr.heap.size) : RdP (KB H v5 w5) w5 s A np xs :=
  h.keep (fun b hb => ⟨hb.1, by have := hb.2.1; have := hg.size; omega, fun e => by
      rcases hat with e' | e'
      · exact hb.2.2 (e' ▸ e)
      · rw [e'] at e
        have := Option.some.inj e
        have := hb.2.1
        omega⟩) (fun p hp => World.cell?_of_block (hg.block p.block hp.2.1 (fun e => hp.2.2 e.symm)))
theorem KB.in_below {H : Nat} {v : Value} {wr wa : World} {L : List Tr} (h : InL (KB H v wr) wr L) (hb : Below wr.heap.size wr wa) : InL (KB H v wa) wa L :=
  inL_iff.2 fun t ht => (inL_iff.1 h t ht).keep (fun b hk => ⟨hk.1, by have := hk.2.1; have := hb.size; omega, hk.2.2⟩) (fun p hp => hb.cell hp.2.1)
theorem KB.rd_below {H np s : Nat} {v : Value} {wr wa : World} {A : Option Addr} {xs : List Value} (h : RdP (KB H v wr) wr s A np xs) (hb : Below wr.heap.size wr wa) : RdP (KB H v wa) wa s A np xs :=
  h.keep (fun b hk => ⟨hk.1, by have := hk.2.1; have := hb.size; omega, hk.2.2⟩) (fun p hp => hb.cell hp.2.1)
theorem KB.in_set {H : Nat} {v u : Value} {wr : World} {L : List Tr} (h : InL (KB H v wr) wr L) (p : Addr) (hp : p.block < H ∨ v.ownBlock = some p.block) : InL (KB H v (wr.setCell p u)) (wr.setCell p u) L :=
  inL_iff.2 fun t ht => (inL_iff.1 h t ht).keep (fun b hk => ⟨hk.1, by simpa using hk.2.1, hk.2.2⟩) (fun q hq => World.cell?_setCell_other _ _ _ _ (fun e => by
    subst e
    rcases hp with e | e
    · have := hq.1; omega
    · exact hq.2.2 e))
theorem KB.rd_set {H np s : Nat} {v u : Value} {wr : World} {A : Option Addr} {xs : List Value} (h : RdP (KB H v wr) wr s A np xs) (p : Addr) (hp : p.block < H ∨ v.ownBlock = some p.block) : RdP (KB H v (wr.setCell p u)) (wr.setCell p u) s A np xs :=
  h.keep (fun b hk => ⟨hk.1, by simpa using hk.2.1, hk.2.2⟩) (fun q hq => World.cell?_setCell_other _ _ _ _ (fun e => by
    subst e
    rcases hp with e | e
    · have := hq.1; omega
    · exact hq.2.2 e))
theorem KB.in_new {H : Nat} {v : Value} {wr wa : World} {L : List Tr} {t : Tr} (h : InL (KB H v wa) wa L) (ht : t.In (NewB wr wa) wa) (hH : H ≤ wr.heap.size) (hv : ∀ b, v.ownBlock = some b → b < wr.heap.size) : InL (KB H v wa) wa (L ++ [t]) :=
  inL_iff.2 fun x hx => by
    rcases List.mem_append.1 hx with hx | hx
    · exact inL_iff.1 h x hx
    · obtain rfl : x = t := by simpa using hx
      exact ht.keep (fun b hb => ⟨by have := hb.1; omega, hb.2, fun e => by have := hv b e; have := hb.1; omega⟩) (fun _ _ => rfl)
end Go.Proofs.YtcmlfkoeajpliaaDoor
namespace Go.Proofs.YtcmlfkoeajpliaaDoor
open Go.RowKit Go.Lib
set_option maxRecDepth 100000
/-- A block that is known whole. -/
def Blk (w : World) (g : Nat) (t : TypeId) (cs : Array Value) : Prop := w.heap[g]? = some (.cells cs t (0, 0))
section
variable {w w' : World} {g : Nat} {t : TypeId} {cs : Array Value}
theorem Blk.lt (h : Blk w g t cs) : g < w.heap.size := by
  rcases Nat.lt_or_ge g w.heap.size with hlt | hge
  · exact hlt
  · unfold Blk at h; rw [Array.getElem?_eq_none hge] at h; cases h
theorem Blk.cell (h : Blk w g t cs) (i : Nat) : w.cell? ⟨g, i, none⟩ = cs[i]? := cell_of_row w g i cs t (0, 0) h
theorem Blk.frozen (h : Blk w g t cs) (i : Nat) : w.frozen? ⟨g, i, none⟩ = false := by
  unfold Blk at h
  simp [World.frozen?, h]
theorem Blk.new (w : World) (t : TypeId) (cs : Array Value) : Blk (w.alloc (.cells cs t)) w.heap.size t cs := heap_alloc_new w _
theorem Blk.alloc (h : Blk w g t cs) (o : Obj) : Blk (w.alloc o) g t cs := (Below.heap_alloc w o g h.lt).trans h
theorem Blk.set_ (h : Blk w g t cs) (i : Nat) (u : Value) : Blk (w.setCell ⟨g, i, none⟩ u) g t (cs.setIfInBounds i u) := by
  unfold Blk at h ⊢
  simp [World.setCell, Array.getElem?_modify, h]
theorem Blk.far (h : Blk w g t cs) {p : Addr} (hp : g ≠ p.block) (u : Value) : Blk (w.setCell p u) g t cs := (Below.heap_setCell w p u g hp).trans h
theorem Blk.below {B : Nat} (h : Blk w g t cs) (hb : Below B w w') (hg : g < B) : Blk w' g t cs := (hb.block g hg).trans h
theorem Blk.grown {row : Option Nat} (h : Blk w g t cs) (hb : w.grownBy w' row) (hg : some g ≠ row) : Blk w' g t cs := (hb.block g h.lt hg).trans h
end
/-- The world while a tree of a call's own grows: what was below H stays but the tree's block; a row that grows; trees and pairs in other new blocks. -/
structure Grow (H gt : Nat) (w0 W : World) (e : TypeId) (size : Nat) (v : Value) (n : Nat) (Y : List Value) (L : List Tr) (A3 : Option Addr) (np : Nat) (xs : List Value) (cs : Array Value) : Prop where
  keep : Keep H gt w0 W
  big : H ≤ W.heap.size
  lt : gt < H
  own : W.ownsRow H e size v n Y
  trees : InL (KB H v W) W L
  pairs : RdP (KB H v W) W 2 A3 np xs
  box : Blk W gt 33 cs
section
variable {H gt : Nat} {w0 W W' : World} {e : TypeId} {size : Nat} {v : Value} {n : Nat} {Y : List Value} {L : List Tr} {A3 : Option Addr} {np : Nat} {xs : List Value} {cs : Array Value}
theorem Grow.below (h : Grow H gt w0 W e size v n Y L A3 np xs cs) (hb : Below W.heap.size W W') : Grow H gt w0 W' e size v n Y L A3 np xs cs :=
  ⟨h.keep.below hb h.big, Nat.le_trans h.big hb.size, h.lt, own_below h.own hb, KB.in_below h.trees hb, KB.rd_below h.pairs hb, h.box.below hb (by have := h.lt; have := h.big; omega)⟩
theorem Grow.drew (h : Grow H gt w0 W e size v n Y L A3 np xs cs) : Grow H gt w0 W.drew e size v n Y L A3 np xs cs := h.below (Below.refl _ _).drew
theorem Grow.new (h : Grow H gt w0 W e size v n Y L A3 np xs cs) (o : Obj) : Grow H gt w0 (W.alloc o) e size v n Y L A3 np xs cs := h.below ((Below.refl _ _).alloc (Nat.le_refl _) _)
theorem Grow.row (h : Grow H gt w0 W e size v n Y L A3 np xs cs) {v' : Value} {n' : Nat} {Y' : List Value} (ho : W'.ownsRow H e size v' n' Y') (hg : W.grownBy W' v.ownBlock) (hat : v'.ownBlock = v.ownBlock ∨ v'.ownBlock = some W.heap.size) : Grow H gt w0 W' e size v' n' Y' L A3 np xs cs :=
  ⟨h.keep.grown hg h.big (fun _ hb => (own_lt h.own hb).1), Nat.le_trans h.big hg.size, h.lt, ho, KB.in_grown h.trees hg hat, KB.rd_grown h.pairs hg hat, h.box.grown hg (fun e => by have := (own_lt h.own e.symm).1; have := h.lt; omega)⟩
theorem Grow.stored (h : Grow H gt w0 W e size v n Y L A3 np xs cs) {g : Nat} (hv : v.ownBlock = some g) {Y' : List Value} (i : Nat) (u : Value) (ho : (W.setCell ⟨g, i, none⟩ u).ownsRow H e size v n Y') : Grow H gt w0 (W.setCell ⟨g, i, none⟩ u) e size v n Y' L A3 np xs cs := by
  have hg := (own_lt h.own hv).1
  exact ⟨h.keep.set _ _ (.inr hg), by simpa using h.big, h.lt, ho, KB.in_set h.trees _ (.inr hv), KB.rd_set h.pairs _ (.inr hv), h.box.far (by have := h.lt; show gt ≠ g; omega) _⟩
theorem Grow.field (h : Grow H gt w0 W e size v n Y L A3 np xs cs) (i : Nat) (u : Value) : Grow H gt w0 (W.setCell ⟨gt, i, none⟩ u) e size v n Y L A3 np xs (cs.setIfInBounds i u) :=
  ⟨h.keep.set _ _ (.inl rfl), by simpa using h.big, h.lt, ownsRow_setCell_below h.own (by exact h.lt) _, KB.in_set h.trees _ (.inl h.lt), KB.rd_set h.pairs _ (.inl h.lt), h.box.set_ _ _⟩
end
end Go.Proofs.YtcmlfkoeajpliaaDoor
namespace Go.Proofs.YtcmlfkoeajpliaaDoor
open Go.RowKit Go.Lib
set_option maxRecDepth 100000
set_option maxHeartbeats 8000000
def zero5 : List Value := [.int .i64 0, .string ⟨#[]⟩, .string ⟨#[]⟩, .slice none 0 0, .slice none 0 0]
/-- Ahead of the append. -/
def KidA (H gt gs sb m : Nat) (x0 x1 x2 x3 : Value) (A4 : Option Addr) (j c4 : Nat) (L : List Tr) (A3 : Option Addr) (np : Nat) (xs : List Value) (T : PT) (w : World) (F : Nat → Bool) (A : Act) (W : World) : Prop := ∃ s4 s5 s6 s7 s8 s9 s10 : Value,
  A = { tmps := #[.int .i64 (m : Int), (.pointer (some ⟨gt, 0, none⟩)), (.pointer (some ⟨gs, 0, none⟩)), undef, s4, s5, s6, s7, s8, s9, s10, undef, undef, undef], defers := [] } ∧
  F 7 = false ∧ F 8 = false ∧ F 9 = false ∧ F 10 = false ∧ F 11 = false ∧
  Grow H gt w W 33 5 (.slice A4 j c4) j (rowT L) L A3 np xs #[x0, x1, x2, x3, .slice A4 j c4] ∧
  (F 0 = true → s4 = .pointer (some ⟨gt, 4, none⟩)) ∧ (F 1 = true → s5 = .slice A4 j c4) ∧ (F 2 = true → s6 = .pointer (some ⟨sb, 0, none⟩)) ∧ (F 3 = true → s7 = .int .i64 (m : Int)) ∧ (F 5 = true → s9 = .int .i64 (j : Int)) ∧
  (F 4 = true → ∃ t1 : Tr, s8 = t1.v ∧ t1.pl = T ∧ t1.In (KB H (.slice A4 j c4) W) W) ∧
  (F 6 = true → ∃ Az cz, s10 = .slice Az 1 cz ∧ RdP (KB H (.slice A4 j c4) W) W 5 Az 1 zero5)
/-- Behind it. -/
def KidB (H gt gs _sb m : Nat) (x0 x1 x2 x3 : Value) (A4 : Option Addr) (j c4 : Nat) (L : List Tr) (A3 : Option Addr) (np : Nat) (xs : List Value) (T : PT) (w : World) (F : Nat → Bool) (A : Act) (W : World) : Prop := ∃ (s4 s5 s6 s7 s8 s9 s10 s12 s13 : Value) (g c5 : Nat) (t1 : Tr) (Y : List Value) (u : Value),
  A = { tmps := #[.int .i64 (m : Int), (.pointer (some ⟨gt, 0, none⟩)), (.pointer (some ⟨gs, 0, none⟩)), undef, s4, s5, s6, s7, s8, s9, s10, .slice (some ⟨g, 0, none⟩) (j + 1) c5, s12, s13], defers := [] } ∧
  F 0 = true ∧ F 1 = true ∧ F 2 = true ∧ F 3 = true ∧ F 4 = true ∧ F 5 = true ∧ F 6 = true ∧ F 7 = true ∧
  s9 = .int .i64 (j : Int) ∧ s8 = t1.v ∧ t1.pl = T ∧ t1.In (KB H (.slice (some ⟨g, 0, none⟩) (j + 1) c5) W) W ∧
  Grow H gt w W 33 5 (.slice (some ⟨g, 0, none⟩) (j + 1) c5) (j + 1) Y L A3 np xs #[x0, x1, x2, x3, u] ∧
  (F 8 = true → s12 = .pointer (some ⟨g, j * 5, none⟩)) ∧ (F 10 = true → s13 = .pointer (some ⟨gt, 4, none⟩)) ∧
  (F 9 = false → Y = rowT L ++ zero5) ∧ (F 9 = true → Y = rowT L ++ t1.cells) ∧ (F 11 = false → u = .slice A4 j c4) ∧ (F 11 = true → u = .slice (some ⟨g, 0, none⟩) (j + 1) c5)
theorem flag_ne {l : Array Bool} {i : Nat} (j : Nat) (h : i ≠ j) : (l.setIfInBounds i true).getD j false = l.getD j false := getD_set_ne false h
theorem In.below1 {H : Nat} {v : Value} {w w' : World} {t : Tr} (h : t.In (KB H v w) w) (hb : Below w.heap.size w w') : t.In (KB H v w') w' := inL_iff.1 (KB.in_below (L := [t]) (inL_iff.2 (by simpa using h)) hb) t (by simp)
theorem In.grown1 {H : Nat} {v v' : Value} {w w' : World} {t : Tr} (h : t.In (KB H v w) w) (hg : w.grownBy w' v.ownBlock) (hat : v'.ownBlock = v.ownBlock ∨ v'.ownBlock = some w.heap.size) : t.In (KB H v' w') w' := inL_iff.1 (KB.in_grown (L := [t]) (inL_iff.2 (by simpa using h)) hg hat) t (by simp)
theorem In.set1 {H : Nat} {v u : Value} {w : World} {t : Tr} (h : t.In (KB H v w) w) (p : Addr) (hp : p.block < H ∨ v.ownBlock = some p.block) : t.In (KB H v (w.setCell p u)) (w.setCell p u) := inL_iff.1 (KB.in_set (L := [t]) (inL_iff.2 (by simpa using h)) p hp) t (by simp)
theorem In.new1 {H : Nat} {v : Value} {w w' : World} {t : Tr} (h : t.In (NewB w w') w') (hH : H ≤ w.heap.size) (hv : ∀ b, v.ownBlock = some b → b < w.heap.size) : t.In (KB H v w') w' :=
  h.keep (fun b hb => ⟨by have := hb.1; omega, hb.2, fun e => by have := hv b e; have := hb.1; omega⟩) (fun _ _ => rfl)
theorem Grow.five {H gt : Nat} {w0 W : World} {c5 j g : Nat} {L : List Tr} {A3 : Option Addr} {np : Nat} {xs : List Value} {cs : Array Value} (h : Grow H gt w0 W 33 5 (.slice (some ⟨g, 0, none⟩) (j + 1) c5) (j + 1) (rowT L ++ zero5) L A3 np xs cs) (hv : (Value.slice (some (⟨g, 0, none⟩ : Addr)) (j + 1) c5).ownBlock = some g) (hl : (rowT L).length = j * 5) (a0 a1 a2 a3 a4 : Value) :
    Grow H gt w0 (((((W.setCell ⟨g, j * 5, none⟩ a0).setCell ⟨g, j * 5 + 1, none⟩ a1).setCell ⟨g, j * 5 + 2, none⟩ a2).setCell ⟨g, j * 5 + 3, none⟩ a3).setCell ⟨g, j * 5 + 4, none⟩ a4) 33 5 (.slice (some ⟨g, 0, none⟩) (j + 1) c5) (j + 1) (rowT L ++ [a0, a1, a2, a3, a4]) L A3 np xs cs := by
  have h0 := h.stored hv (j * 5) a0 (h.own.stored _ _).1
  have h1 := h0.stored hv (j * 5 + 1) a1 (h0.own.stored _ _).1
  have h2 := h1.stored hv (j * 5 + 2) a2 (h1.own.stored _ _).1
  have h3 := h2.stored hv (j * 5 + 3) a3 (h2.own.stored _ _).1
  have h4 := h3.stored hv (j * 5 + 4) a4 (h3.own.stored _ _).1
  have e : (((((rowT L ++ zero5).set (j * 5) a0).set (j * 5 + 1) a1).set (j * 5 + 2) a2).set (j * 5 + 3) a3).set (j * 5 + 4) a4 = rowT L ++ [a0, a1, a2, a3, a4] := by
    rw [← hl]
    simp [zero5]
  rw [e] at h4
  exact h4
theorem In.five {H : Nat} {v : Value} {w : World} {t : Tr} {g i : Nat} (h : t.In (KB H v w) w) (hv : v.ownBlock = some g) (a0 a1 a2 a3 a4 : Value) :
    t.In (KB H v (((((w.setCell ⟨g, i, none⟩ a0).setCell ⟨g, i + 1, none⟩ a1).setCell ⟨g, i + 2, none⟩ a2).setCell ⟨g, i + 3, none⟩ a3).setCell ⟨g, i + 4, none⟩ a4)) (((((w.setCell ⟨g, i, none⟩ a0).setCell ⟨g, i + 1, none⟩ a1).setCell ⟨g, i + 2, none⟩ a2).setCell ⟨g, i + 3, none⟩ a3).setCell ⟨g, i + 4, none⟩ a4) :=
  In.set1 (In.set1 (In.set1 (In.set1 (In.set1 h _ (.inr hv)) _ (.inr hv)) _ (.inr hv)) _ (.inr hv)) _ (.inr hv)
set_option maxHeartbeats 16000000 in
theorem kid_region (H gt gs sb m : Nat) (x0 x1 x2 x3 : Value) (A4 : Option Addr) (j c4 : Nat) (L : List Tr) (A3 : Option Addr) (np : Nat) (xs : List Value) (T : PT) (lim c : Nat) (A : Option Addr) (Ls : List En) (w : World) (Q : Exit → Act → World → Prop) (hS : StoreAt w sb lim A c Ls) (hsH : sb < H) (hsg : sb ≠ gt) (hrow : ∀ b, blkOf A = some b → b < H ∧ b ≠ gt) (hgs : gs < H) (hgg : gs ≠ gt) (hbox : w.cell? ⟨gs, 0, none⟩ = some (.pointer (some ⟨sb, 0, none⟩)))
    (hj : j ≤ 1048576) (hjl : L.length = j) (h0 : Grow H gt w w 33 5 (.slice A4 j c4) j (rowT L) L A3 np xs #[x0, x1, x2, x3, .slice A4 j c4])
    (HT : Hid (∀ w1 : World, StoreAt w1 sb lim A c Ls → Calls Tryd.prog 26 #[.pointer (some ⟨sb, 0, none⟩), .int .i64 (m : Int)] w1 fun e w' => ∃ t' : Tr, e = .returned t'.v ∧ t'.pl = T ∧ t'.In (NewB w1 w') w' ∧ Below w1.heap.size w1 w'))
    (hQ : ∀ (a : Act) (W : World) (A5 : Option Addr) (c5 : Nat) (t1 : Tr), a.defers = [] → t1.pl = T → t1.In (KB H (.slice A5 (j + 1) c5) W) W → Grow H gt w W 33 5 (.slice A5 (j + 1) c5) (j + 1) (rowT (L ++ [t1])) L A3 np xs #[x0, x1, x2, x3, .slice A5 (j + 1) c5] → Q .normal a W) :
    Code.wp Tryd.prog ((Tryd.f61.body.bind (regionOf 0)).getD .skip) Q { tmps := #[.int .i64 (m : Int), (.pointer (some ⟨gt, 0, none⟩)), (.pointer (some ⟨gs, 0, none⟩)), undef, undef, undef, undef, undef, undef, undef, undef, undef, undef, undef], defers := [] } w := by
  conv => arg 2; whnf
  refine wp_region_inv (by kernel_rfl) (by kernel_rfl) (fun l a W => KidA H gt gs sb m x0 x1 x2 x3 A4 j c4 L A3 np xs T w (fun i => l.getD i false) a W ∨ KidB H gt gs sb m x0 x1 x2 x3 A4 j c4 L A3 np xs T w (fun i => l.getD i false) a W) ?_ ?_ ?_
  · exact .inl ⟨_, _, _, _, _, _, _, rfl, rfl, rfl, rfl, rfl, rfl, h0.drew, fun h => absurd h l0, fun h => absurd h l0, fun h => absurd h l0, fun h => absurd h l0, fun h => absurd h l0, fun h => absurd h l0, fun h => absurd h l0⟩
  · intro i o listed A w9 hi ho hd hn hI
    have hi' : i < 12 := hi
    clear hi
    rcases (by omega : i = 0 ∨ i = 1 ∨ i = 2 ∨ i = 3 ∨ i = 4 ∨ i = 5 ∨ i = 6 ∨ i = 7 ∨ i = 8 ∨ i = 9 ∨ i = 10 ∨ i = 11) with rfl | rfl | rfl | rfl | rfl | rfl | rfl | rfl | rfl | rfl | rfl | rfl
    · simp only [List.getElem?_toArray, List.getElem?_cons_zero, Option.some.injEq] at ho
      subst ho
      rcases hI with hI | hI
      · obtain ⟨s4, s5, s6, s7, s8, s9, s10, rfl, q7, q8, q9, q10, q11, hG, f0, f1, f2, f3, f5, f4, f6⟩ := hI
        refine wpOp_step rfl (fun K hK => ?_)
        go_simp
        refine hK _ _ (.inl ?_)
        unfold KidA
        simp only [flag_ne (i := 0) 1 (by decide), flag_ne (i := 0) 2 (by decide), flag_ne (i := 0) 3 (by decide), flag_ne (i := 0) 4 (by decide), flag_ne (i := 0) 5 (by decide), flag_ne (i := 0) 6 (by decide), flag_ne (i := 0) 7 (by decide), flag_ne (i := 0) 8 (by decide), flag_ne (i := 0) 9 (by decide), flag_ne (i := 0) 10 (by decide), flag_ne (i := 0) 11 (by decide), lself hn]
        exact ⟨_, _, _, _, _, _, _, rfl, q7, q8, q9, q10, q11, hG, fun _ => rfl, fun h => f1 h, fun h => f2 h, fun h => f3 h, fun h => f5 h, fun h => f4 h, fun h => f6 h⟩
      · obtain ⟨s4, s5, s6, s7, s8, s9, s10, s12, s13, g, c5, t1, Y, u, rfl, q0, q1, q2, q3, q4, q5, q6, q7, e9, e8, hpl, hin, hG, f8, f10, f9, f9', f11, f11'⟩ := hI
        exact lc hn q0
    · simp only [List.getElem?_toArray, List.getElem?_cons_zero, List.getElem?_cons_succ, Option.some.injEq] at ho
      subst ho
      rcases hI with hI | hI
      · obtain ⟨s4, s5, s6, s7, s8, s9, s10, rfl, q7, q8, q9, q10, q11, hG, f0, f1, f2, f3, f5, f4, f6⟩ := hI
        obtain rfl := f0 (hd ⟨0, .data⟩ (by simp) rfl)
        have hc := hG.box.cell 4
        simp only [List.getElem?_toArray, List.getElem?_cons_zero, List.getElem?_cons_succ] at hc
        refine wpOp_step rfl (fun K hK => ?_)
        go_simp
        refine hK _ _ (.inl ?_)
        unfold KidA
        simp only [flag_ne (i := 1) 0 (by decide), flag_ne (i := 1) 2 (by decide), flag_ne (i := 1) 3 (by decide), flag_ne (i := 1) 4 (by decide), flag_ne (i := 1) 5 (by decide), flag_ne (i := 1) 6 (by decide), flag_ne (i := 1) 7 (by decide), flag_ne (i := 1) 8 (by decide), flag_ne (i := 1) 9 (by decide), flag_ne (i := 1) 10 (by decide), flag_ne (i := 1) 11 (by decide), lself hn]
        exact ⟨_, _, _, _, _, _, _, rfl, q7, q8, q9, q10, q11, hG, fun h => f0 h, fun _ => rfl, fun h => f2 h, fun h => f3 h, fun h => f5 h, fun h => f4 h, fun h => f6 h⟩
      · obtain ⟨s4, s5, s6, s7, s8, s9, s10, s12, s13, g, c5, t1, Y, u, rfl, q0, q1, q2, q3, q4, q5, q6, q7, e9, e8, hpl, hin, hG, f8, f10, f9, f9', f11, f11'⟩ := hI
        exact lc hn q1
    · simp only [List.getElem?_toArray, List.getElem?_cons_zero, List.getElem?_cons_succ, Option.some.injEq] at ho
      subst ho
      rcases hI with hI | hI
      · obtain ⟨s4, s5, s6, s7, s8, s9, s10, rfl, q7, q8, q9, q10, q11, hG, f0, f1, f2, f3, f5, f4, f6⟩ := hI
        have hc := (hG.keep.cell (p := ⟨gs, 0, none⟩) hgs hgg).trans hbox
        refine wpOp_step rfl (fun K hK => ?_)
        go_simp
        refine hK _ _ (.inl ?_)
        unfold KidA
        simp only [flag_ne (i := 2) 0 (by decide), flag_ne (i := 2) 1 (by decide), flag_ne (i := 2) 3 (by decide), flag_ne (i := 2) 4 (by decide), flag_ne (i := 2) 5 (by decide), flag_ne (i := 2) 6 (by decide), flag_ne (i := 2) 7 (by decide), flag_ne (i := 2) 8 (by decide), flag_ne (i := 2) 9 (by decide), flag_ne (i := 2) 10 (by decide), flag_ne (i := 2) 11 (by decide), lself hn]
        exact ⟨_, _, _, _, _, _, _, rfl, q7, q8, q9, q10, q11, hG, fun h => f0 h, fun h => f1 h, fun _ => rfl, fun h => f3 h, fun h => f5 h, fun h => f4 h, fun h => f6 h⟩
      · obtain ⟨s4, s5, s6, s7, s8, s9, s10, s12, s13, g, c5, t1, Y, u, rfl, q0, q1, q2, q3, q4, q5, q6, q7, e9, e8, hpl, hin, hG, f8, f10, f9, f9', f11, f11'⟩ := hI
        exact lc hn q2
    · simp only [List.getElem?_toArray, List.getElem?_cons_zero, List.getElem?_cons_succ, Option.some.injEq] at ho
      subst ho
      rcases hI with hI | hI
      · obtain ⟨s4, s5, s6, s7, s8, s9, s10, rfl, q7, q8, q9, q10, q11, hG, f0, f1, f2, f3, f5, f4, f6⟩ := hI
        refine wpOp_step rfl (fun K hK => ?_)
        go_simp
        refine hK _ _ (.inl ?_)
        unfold KidA
        simp only [flag_ne (i := 3) 0 (by decide), flag_ne (i := 3) 1 (by decide), flag_ne (i := 3) 2 (by decide), flag_ne (i := 3) 4 (by decide), flag_ne (i := 3) 5 (by decide), flag_ne (i := 3) 6 (by decide), flag_ne (i := 3) 7 (by decide), flag_ne (i := 3) 8 (by decide), flag_ne (i := 3) 9 (by decide), flag_ne (i := 3) 10 (by decide), flag_ne (i := 3) 11 (by decide), lself hn]
        exact ⟨_, _, _, _, _, _, _, rfl, q7, q8, q9, q10, q11, hG, fun h => f0 h, fun h => f1 h, fun h => f2 h, fun _ => rfl, fun h => f5 h, fun h => f4 h, fun h => f6 h⟩
      · obtain ⟨s4, s5, s6, s7, s8, s9, s10, s12, s13, g, c5, t1, Y, u, rfl, q0, q1, q2, q3, q4, q5, q6, q7, e9, e8, hpl, hin, hG, f8, f10, f9, f9', f11, f11'⟩ := hI
        exact lc hn q3
    · simp only [List.getElem?_toArray, List.getElem?_cons_zero, List.getElem?_cons_succ, Option.some.injEq] at ho
      subst ho
      rcases hI with hI | hI
      · obtain ⟨s4, s5, s6, s7, s8, s9, s10, rfl, q7, q8, q9, q10, q11, hG, f0, f1, f2, f3, f5, f4, f6⟩ := hI
        obtain rfl := f2 (hd ⟨2, .data⟩ (by simp) rfl)
        obtain rfl := f3 (hd ⟨3, .data⟩ (by simp) rfl)
        have hSt := hS.keep hG.keep hsH hsg hrow
        refine wpOp_step rfl (fun K hK => ?_)
        go_simp
        go_at_call 26
        refine (HT.out _ hSt).mono ?_
        rintro e w' ⟨t1, rfl, hpl, hin, hb⟩
        refine hK _ _ (.inl ?_)
        unfold KidA
        simp only [flag_ne (i := 4) 0 (by decide), flag_ne (i := 4) 1 (by decide), flag_ne (i := 4) 2 (by decide), flag_ne (i := 4) 3 (by decide), flag_ne (i := 4) 5 (by decide), flag_ne (i := 4) 6 (by decide), flag_ne (i := 4) 7 (by decide), flag_ne (i := 4) 8 (by decide), flag_ne (i := 4) 9 (by decide), flag_ne (i := 4) 10 (by decide), flag_ne (i := 4) 11 (by decide), lself hn]
        exact ⟨_, _, _, _, _, _, _, rfl, q7, q8, q9, q10, q11, hG.below hb, fun h => f0 h, fun h => f1 h, fun h => f2 h, fun h => f3 h, fun h => f5 h, fun _ => ⟨t1, rfl, hpl, In.new1 hin hG.big (fun b hb => (own_lt hG.own hb).2)⟩, fun h => (f6 h).elim fun Az h => h.elim fun cz h => ⟨Az, cz, h.1, KB.rd_below h.2 hb⟩⟩
      · obtain ⟨s4, s5, s6, s7, s8, s9, s10, s12, s13, g, c5, t1, Y, u, rfl, q0, q1, q2, q3, q4, q5, q6, q7, e9, e8, hpl, hin, hG, f8, f10, f9, f9', f11, f11'⟩ := hI
        exact lc hn q4
    · simp only [List.getElem?_toArray, List.getElem?_cons_zero, List.getElem?_cons_succ, Option.some.injEq] at ho
      subst ho
      rcases hI with hI | hI
      · obtain ⟨s4, s5, s6, s7, s8, s9, s10, rfl, q7, q8, q9, q10, q11, hG, f0, f1, f2, f3, f5, f4, f6⟩ := hI
        obtain rfl := f1 (hd ⟨1, .data⟩ (by simp) rfl)
        refine wpOp_step rfl (fun K hK => ?_)
        go_simp
        refine hK _ _ (.inl ?_)
        unfold KidA
        simp only [flag_ne (i := 5) 0 (by decide), flag_ne (i := 5) 1 (by decide), flag_ne (i := 5) 2 (by decide), flag_ne (i := 5) 3 (by decide), flag_ne (i := 5) 4 (by decide), flag_ne (i := 5) 6 (by decide), flag_ne (i := 5) 7 (by decide), flag_ne (i := 5) 8 (by decide), flag_ne (i := 5) 9 (by decide), flag_ne (i := 5) 10 (by decide), flag_ne (i := 5) 11 (by decide), lself hn]
        exact ⟨_, _, _, _, _, _, _, rfl, q7, q8, q9, q10, q11, hG, fun h => f0 h, fun h => f1 h, fun h => f2 h, fun h => f3 h, fun _ => rfl, fun h => f4 h, fun h => f6 h⟩
      · obtain ⟨s4, s5, s6, s7, s8, s9, s10, s12, s13, g, c5, t1, Y, u, rfl, q0, q1, q2, q3, q4, q5, q6, q7, e9, e8, hpl, hin, hG, f8, f10, f9, f9', f11, f11'⟩ := hI
        exact lc hn q5
    · simp only [List.getElem?_toArray, List.getElem?_cons_zero, List.getElem?_cons_succ, Option.some.injEq] at ho
      subst ho
      rcases hI with hI | hI
      · obtain ⟨s4, s5, s6, s7, s8, s9, s10, rfl, q7, q8, q9, q10, q11, hG, f0, f1, f2, f3, f5, f4, f6⟩ := hI
        refine wpOp_step rfl (fun K hK => ?_)
        go_simp
        refine hK _ _ (.inl ?_)
        unfold KidA
        simp only [flag_ne (i := 6) 0 (by decide), flag_ne (i := 6) 1 (by decide), flag_ne (i := 6) 2 (by decide), flag_ne (i := 6) 3 (by decide), flag_ne (i := 6) 4 (by decide), flag_ne (i := 6) 5 (by decide), flag_ne (i := 6) 7 (by decide), flag_ne (i := 6) 8 (by decide), flag_ne (i := 6) 9 (by decide), flag_ne (i := 6) 10 (by decide), flag_ne (i := 6) 11 (by decide), lself hn]
        exact ⟨_, _, _, _, _, _, _, rfl, q7, q8, q9, q10, q11, hG.new _, fun h => f0 h, fun h => f1 h, fun h => f2 h, fun h => f3 h, fun h => f5 h, fun h => (f4 h).elim fun t1 h => ⟨t1, h.1, h.2.1, In.below1 h.2.2 ((Below.refl _ _).alloc (Nat.le_refl _) _)⟩, fun _ => ⟨_, _, rfl, rfl, fun _ => ⟨_, rfl, ⟨hG.big, by simp, fun e => by have := (own_lt hG.own e).2; simp at this⟩, five_new _ _ _ _ _ _ _⟩⟩⟩
      · obtain ⟨s4, s5, s6, s7, s8, s9, s10, s12, s13, g, c5, t1, Y, u, rfl, q0, q1, q2, q3, q4, q5, q6, q7, e9, e8, hpl, hin, hG, f8, f10, f9, f9', f11, f11'⟩ := hI
        exact lc hn q6
    · simp only [List.getElem?_toArray, List.getElem?_cons_zero, List.getElem?_cons_succ, Option.some.injEq] at ho
      subst ho
      rcases hI with hI | hI
      · obtain ⟨s4, s5, s6, s7, s8, s9, s10, rfl, q7, q8, q9, q10, q11, hG, f0, f1, f2, f3, f5, f4, f6⟩ := hI
        have b0 := (hd ⟨0, .phase⟩ (by simp) rfl)
        have b1 := (hd ⟨1, .phase⟩ (by simp) rfl)
        have b2 := (hd ⟨2, .phase⟩ (by simp) rfl)
        have b3 := (hd ⟨3, .phase⟩ (by simp) rfl)
        have b4 := (hd ⟨4, .phase⟩ (by simp) rfl)
        have b5 := (hd ⟨5, .phase⟩ (by simp) rfl)
        have b6 := (hd ⟨6, .phase⟩ (by simp) rfl)
        obtain rfl := f1 b1
        obtain rfl := f5 b5
        obtain ⟨t1, rfl, hpl, hin⟩ := f4 b4
        obtain ⟨Az, cz, rfl, hz⟩ := f6 b6
        obtain ⟨i5, hi5, hz50, hz51, hz52⟩ := info_parts tree_info
        refine wpOp_step rfl (fun K hK => ?_)
        refine wp_append_any _ _ _ _ rfl H 33 i5 _ 5 88 Tryd.underlying22 hi5 hz50 hz51 hz52 rfl (by omega) (.slice A4 j c4) j (rowT L) rfl hG.own w9.heap.size Az 1 cz zero5 rfl (RdP.reads hz (fun b hb => hb.2.1)) (by intro u hu; simp [zero5] at hu; rcases hu with rfl | rfl | rfl | rfl | rfl <;> rfl) (by simp only [maxLen]; omega) (by omega) hG.big ?_
        intro v5 w5 hown5 hg5 hat5
        have hG5 := hG.row hown5 hg5 hat5
        have hin5 := In.grown1 hin hg5 hat5
        rcases hown5.2 with ⟨_, hz⟩ | ⟨g, c5, cur, rfl, _⟩
        · omega
        · refine hK _ _ (.inr ?_)
          unfold KidB
          simp only [flag_ne (i := 7) 0 (by decide), flag_ne (i := 7) 1 (by decide), flag_ne (i := 7) 2 (by decide), flag_ne (i := 7) 3 (by decide), flag_ne (i := 7) 4 (by decide), flag_ne (i := 7) 5 (by decide), flag_ne (i := 7) 6 (by decide), flag_ne (i := 7) 8 (by decide), flag_ne (i := 7) 9 (by decide), flag_ne (i := 7) 10 (by decide), flag_ne (i := 7) 11 (by decide), lself hn]
          exact ⟨_, _, _, _, _, _, _, _, _, g, c5, t1, _, _, rfl, b0, b1, b2, b3, b4, b5, b6, (by first | rfl | trivial), rfl, rfl, hpl, hin5, hG5, fun h => absurd h (by simp [q8]), fun h => absurd h (by simp [q10]), fun _ => rfl, fun h => absurd h (by simp [q9]), fun _ => rfl, fun h => absurd h (by simp [q11])⟩
      · obtain ⟨s4, s5, s6, s7, s8, s9, s10, s12, s13, g, c5, t1, Y, u, rfl, q0, q1, q2, q3, q4, q5, q6, q7, e9, e8, hpl, hin, hG, f8, f10, f9, f9', f11, f11'⟩ := hI
        exact lc hn q7
    · simp only [List.getElem?_toArray, List.getElem?_cons_zero, List.getElem?_cons_succ, Option.some.injEq] at ho
      subst ho
      rcases hI with hI | hI
      · obtain ⟨s4, s5, s6, s7, s8, s9, s10, rfl, q7, q8, q9, q10, q11, hG, f0, f1, f2, f3, f5, f4, f6⟩ := hI
        have := hd ⟨7, .phase⟩ (by simp) rfl
        simp [q7] at this
      · obtain ⟨s4, s5, s6, s7, s8, s9, s10, s12, s13, g, c5, t1, Y, u, rfl, q0, q1, q2, q3, q4, q5, q6, q7, e9, e8, hpl, hin, hG, f8, f10, f9, f9', f11, f11'⟩ := hI
        subst e9 e8
        have hjj : (j : Int) < (j : Int) + 1 := by omega
        refine wpOp_step rfl (fun K hK => ?_)
        go_simp
        refine hK _ _ (.inr ?_)
        unfold KidB
        simp only [flag_ne (i := 8) 0 (by decide), flag_ne (i := 8) 1 (by decide), flag_ne (i := 8) 2 (by decide), flag_ne (i := 8) 3 (by decide), flag_ne (i := 8) 4 (by decide), flag_ne (i := 8) 5 (by decide), flag_ne (i := 8) 6 (by decide), flag_ne (i := 8) 7 (by decide), flag_ne (i := 8) 9 (by decide), flag_ne (i := 8) 10 (by decide), flag_ne (i := 8) 11 (by decide), lself hn]
        exact ⟨_, _, _, _, _, _, _, _, _, g, c5, t1, _, _, rfl, q0, q1, q2, q3, q4, q5, q6, q7, rfl, rfl, hpl, hin, hG, fun _ => rfl, fun h => f10 h, fun h => f9 h, fun h => f9' h, fun h => f11 h, fun h => f11' h⟩
    · simp only [List.getElem?_toArray, List.getElem?_cons_zero, List.getElem?_cons_succ, Option.some.injEq] at ho
      subst ho
      rcases hI with hI | hI
      · obtain ⟨s4, s5, s6, s7, s8, s9, s10, rfl, q7, q8, q9, q10, q11, hG, f0, f1, f2, f3, f5, f4, f6⟩ := hI
        have := hd ⟨7, .phase⟩ (by simp) rfl
        simp [q7] at this
      · obtain ⟨s4, s5, s6, s7, s8, s9, s10, s12, s13, g, c5, t1, Y, u, rfl, q0, q1, q2, q3, q4, q5, q6, q7, e9, e8, hpl, hin, hG, f8, f10, f9, f9', f11, f11'⟩ := hI
        subst e9 e8
        obtain rfl := f8 (hd ⟨8, .data⟩ (by simp) rfl)
        obtain ⟨_, hrow9⟩ := hG.own
        rcases hrow9 with ⟨hv0, _⟩ | ⟨g', cap, cur, hv, hgb, hh, hc1, hc2, hsz, htk⟩
        · cases hv0
        injection hv with e1 e2 e3
        injection e1 with e1
        injection e1 with e1
        subst e1 e3
        have hbk : Blk w9 g 33 cur := hh
        obtain ⟨y0, hy0⟩ : ∃ y, w9.cell? ⟨g, j * 5, none⟩ = some y := ⟨cur[j * 5]'(by omega), (hbk.cell _).trans (Array.getElem?_eq_getElem _)⟩
        have hz0 := hbk.frozen (j * 5)
        obtain ⟨y1, hy1⟩ : ∃ y, w9.cell? ⟨g, j * 5 + 1, none⟩ = some y := ⟨cur[j * 5 + 1]'(by omega), (hbk.cell _).trans (Array.getElem?_eq_getElem _)⟩
        have hz1 := hbk.frozen (j * 5 + 1)
        obtain ⟨y2, hy2⟩ : ∃ y, w9.cell? ⟨g, j * 5 + 2, none⟩ = some y := ⟨cur[j * 5 + 2]'(by omega), (hbk.cell _).trans (Array.getElem?_eq_getElem _)⟩
        have hz2 := hbk.frozen (j * 5 + 2)
        obtain ⟨y3, hy3⟩ : ∃ y, w9.cell? ⟨g, j * 5 + 3, none⟩ = some y := ⟨cur[j * 5 + 3]'(by omega), (hbk.cell _).trans (Array.getElem?_eq_getElem _)⟩
        have hz3 := hbk.frozen (j * 5 + 3)
        obtain ⟨y4, hy4⟩ : ∃ y, w9.cell? ⟨g, j * 5 + 4, none⟩ = some y := ⟨cur[j * 5 + 4]'(by omega), (hbk.cell _).trans (Array.getElem?_eq_getElem _)⟩
        have hz4 := hbk.frozen (j * 5 + 4)
        clear hbk hh hsz htk hc1 hc2
        obtain ⟨k2, n2, v2, A2, ac2, ps2, K2, kc2, ks2⟩ := t1
        simp only [Tr.v]
        obtain rfl := f9 (lf hn)
        have hjl5 : (rowT L).length = j * 5 := by rw [rowT_len, hjl]
        have hgr : (Value.slice (some (⟨g, 0, none⟩ : Addr)) (j + 1) c5).ownBlock = some g := rfl
        have hGG := Grow.five hG hgr hjl5 (.int .i64 k2) (.string (ba' n2)) (.string (ba' v2)) (.slice A2 ps2.length ac2) (.slice K2 ks2.length kc2)
        have hinn := In.five hin (g := g) (i := j * 5) rfl (.int .i64 k2) (.string (ba' n2)) (.string (ba' v2)) (.slice A2 ps2.length ac2) (.slice K2 ks2.length kc2)
        refine wpOp_step rfl (fun K hK => ?_)
        go_simp
        refine hK _ _ (.inr ?_)
        unfold KidB
        simp only [flag_ne (i := 9) 0 (by decide), flag_ne (i := 9) 1 (by decide), flag_ne (i := 9) 2 (by decide), flag_ne (i := 9) 3 (by decide), flag_ne (i := 9) 4 (by decide), flag_ne (i := 9) 5 (by decide), flag_ne (i := 9) 6 (by decide), flag_ne (i := 9) 7 (by decide), flag_ne (i := 9) 8 (by decide), flag_ne (i := 9) 10 (by decide), flag_ne (i := 9) 11 (by decide), lself hn]
        exact ⟨_, _, _, _, _, _, _, _, _, g, _, .mk k2 n2 v2 A2 ac2 ps2 K2 kc2 ks2, _, _, rfl, q0, q1, q2, q3, q4, q5, q6, q7, rfl, rfl, hpl, hinn, hGG, fun h => f8 h, fun h => f10 h, fun h => absurd h (by simp), fun _ => rfl, fun h => f11 h, fun h => f11' h⟩
    · simp only [List.getElem?_toArray, List.getElem?_cons_zero, List.getElem?_cons_succ, Option.some.injEq] at ho
      subst ho
      rcases hI with hI | hI
      · obtain ⟨s4, s5, s6, s7, s8, s9, s10, rfl, q7, q8, q9, q10, q11, hG, f0, f1, f2, f3, f5, f4, f6⟩ := hI
        have := hd ⟨7, .phase⟩ (by simp) rfl
        simp [q7] at this
      · obtain ⟨s4, s5, s6, s7, s8, s9, s10, s12, s13, g, c5, t1, Y, u, rfl, q0, q1, q2, q3, q4, q5, q6, q7, e9, e8, hpl, hin, hG, f8, f10, f9, f9', f11, f11'⟩ := hI
        subst e9 e8
        refine wpOp_step rfl (fun K hK => ?_)
        go_simp
        refine hK _ _ (.inr ?_)
        unfold KidB
        simp only [flag_ne (i := 10) 0 (by decide), flag_ne (i := 10) 1 (by decide), flag_ne (i := 10) 2 (by decide), flag_ne (i := 10) 3 (by decide), flag_ne (i := 10) 4 (by decide), flag_ne (i := 10) 5 (by decide), flag_ne (i := 10) 6 (by decide), flag_ne (i := 10) 7 (by decide), flag_ne (i := 10) 8 (by decide), flag_ne (i := 10) 9 (by decide), flag_ne (i := 10) 11 (by decide), lself hn]
        exact ⟨_, _, _, _, _, _, _, _, _, g, c5, t1, _, _, rfl, q0, q1, q2, q3, q4, q5, q6, q7, rfl, rfl, hpl, hin, hG, fun h => f8 h, fun _ => rfl, fun h => f9 h, fun h => f9' h, fun h => f11 h, fun h => f11' h⟩
    · simp only [List.getElem?_toArray, List.getElem?_cons_zero, List.getElem?_cons_succ, Option.some.injEq] at ho
      subst ho
      rcases hI with hI | hI
      · obtain ⟨s4, s5, s6, s7, s8, s9, s10, rfl, q7, q8, q9, q10, q11, hG, f0, f1, f2, f3, f5, f4, f6⟩ := hI
        have := hd ⟨7, .phase⟩ (by simp) rfl
        simp [q7] at this
      · obtain ⟨s4, s5, s6, s7, s8, s9, s10, s12, s13, g, c5, t1, Y, u, rfl, q0, q1, q2, q3, q4, q5, q6, q7, e9, e8, hpl, hin, hG, f8, f10, f9, f9', f11, f11'⟩ := hI
        subst e9 e8
        obtain rfl := f10 (hd ⟨10, .data⟩ (by simp) rfl)
        have hfr := hG.box.frozen 4
        have hc := hG.box.cell 4
        simp only [List.getElem?_toArray, List.getElem?_cons_zero, List.getElem?_cons_succ] at hc
        refine wpOp_step rfl (fun K hK => ?_)
        go_simp
        refine hK _ _ (.inr ?_)
        unfold KidB
        simp only [flag_ne (i := 11) 0 (by decide), flag_ne (i := 11) 1 (by decide), flag_ne (i := 11) 2 (by decide), flag_ne (i := 11) 3 (by decide), flag_ne (i := 11) 4 (by decide), flag_ne (i := 11) 5 (by decide), flag_ne (i := 11) 6 (by decide), flag_ne (i := 11) 7 (by decide), flag_ne (i := 11) 8 (by decide), flag_ne (i := 11) 9 (by decide), flag_ne (i := 11) 10 (by decide), lself hn]
        exact ⟨_, _, _, _, _, _, _, _, _, g, c5, t1, _, _, rfl, q0, q1, q2, q3, q4, q5, q6, q7, rfl, rfl, hpl, In.set1 hin _ (.inl hG.lt), (hG.field 4 _), fun h => f8 h, fun h => f10 h, fun h => f9 h, fun h => f9' h, fun h => absurd h (by simp), fun _ => rfl⟩
  · intro l A W hall hI
    rcases hI with hI | hI
    · obtain ⟨s4, s5, s6, s7, s8, s9, s10, rfl, q7, q8, q9, q10, q11, hG, f0, f1, f2, f3, f5, f4, f6⟩ := hI
      have := hall 7 (by decide)
      simp [q7] at this
    · obtain ⟨s4, s5, s6, s7, s8, s9, s10, s12, s13, g, c5, t1, Y, u, rfl, q0, q1, q2, q3, q4, q5, q6, q7, e9, e8, hpl, hin, hG, f8, f10, f9, f9', f11, f11'⟩ := hI
      obtain rfl := f9' (hall 9 (by decide))
      obtain rfl := f11' (hall 11 (by decide))
      rw [← rowT_snoc] at hG
      exact hQ _ _ _ _ t1 rfl hpl hin hG
end Go.Proofs.YtcmlfkoeajpliaaDoor
namespace Go.Proofs.YtcmlfkoeajpliaaDoor
open Go.RowKit Go.Lib
set_option maxRecDepth 100000
set_option maxHeartbeats 8000000
theorem two_new (w : World) (x0 x1 : Value) (t : TypeId) : ∀ j u, [x0, x1][j]? = some u → (w.alloc (.cells #[x0, x1] t)).cell? ((⟨w.heap.size, 0, none⟩ : Addr).add j) = some u := by
  intro j u hu
  match j, hu with
  | 0, hu => cases hu; simp [Addr.add]
  | 1, hu => cases hu; simp [Addr.add]
  | j + 2, hu => simp at hu
theorem rowP_snoc (L : List (List UInt8 × List UInt8)) (p : List UInt8 × List UInt8) : rowP (L ++ [p]) = rowP L ++ [.string (ba' p.1), .string (ba' p.2)] := by unfold rowP; simp
/-- Ahead of the append. -/
def AttA (H gt gs sb m : Nat) (x0 x1 x2 x4 : Value) (A3 : Option Addr) (q c3 : Nat) (Ps : List (List UInt8 × List UInt8)) (nm vl : List UInt8) (w : World) (F : Nat → Bool) (A : Act) (W : World) : Prop := ∃ s4 s5 s6 s7 s8 s9 s10 s11 s12 s13 s15 : Value,
  A = { tmps := #[.int .i64 (m : Int), (.pointer (some ⟨gt, 0, none⟩)), (.pointer (some ⟨gs, 0, none⟩)), undef, s4, s5, s6, s7, s8, s9, s10, s11, s12, s13, undef, s15], defers := [] } ∧
  F 10 = false ∧ F 12 = false ∧ (F 1 = true → F 0 = true) ∧ (F 9 = true → F 8 = true) ∧ (F 8 = true → F 4 = true) ∧ (F 8 = true → F 7 = true) ∧ (F 4 = true → F 2 = true) ∧ (F 4 = true → F 3 = true) ∧ (F 7 = true → F 5 = true) ∧ (F 7 = true → F 6 = true) ∧ (F 11 = true → s15 = .pointer (some ⟨gt, 3, none⟩)) ∧
  Grow H gt w W 76 2 (.slice A3 q c3) q (rowP Ps) [] none 0 [] #[x0, x1, x2, .slice A3 q c3, x4] ∧
  (F 0 = true → s4 = .pointer (some ⟨gt, 3, none⟩)) ∧ (F 1 = true → s5 = .slice A3 q c3) ∧ (F 2 = true → s6 = .pointer (some ⟨sb, 0, none⟩)) ∧ (F 3 = true → s7 = .int .i64 (m : Int)) ∧ (F 4 = true → s8 = .string (ba' nm)) ∧
  (F 5 = true → s9 = .pointer (some ⟨sb, 0, none⟩)) ∧ (F 6 = true → s10 = .int .i64 (m : Int)) ∧ (F 7 = true → s11 = .string (ba' vl)) ∧ (F 8 = true → s12 = .agg #[.string (ba' nm), .string (ba' vl)]) ∧
  (F 9 = true → ∃ Az cz, s13 = .slice Az 1 cz ∧ RdP (KB H (.slice A3 q c3) W) W 2 Az 1 [.string (ba' nm), .string (ba' vl)])
/-- Behind it. -/
def AttB (H gt gs _sb m : Nat) (x0 x1 x2 x4 : Value) (A3 : Option Addr) (q c3 : Nat) (Ps : List (List UInt8 × List UInt8)) (nm vl : List UInt8) (w : World) (F : Nat → Bool) (A : Act) (W : World) : Prop := ∃ (s4 s5 s6 s7 s8 s9 s10 s11 s12 s13 s15 : Value) (A5 : Option Addr) (c5 : Nat) (u : Value),
  A = { tmps := #[.int .i64 (m : Int), (.pointer (some ⟨gt, 0, none⟩)), (.pointer (some ⟨gs, 0, none⟩)), undef, s4, s5, s6, s7, s8, s9, s10, s11, s12, s13, .slice A5 (q + 1) c5, s15], defers := [] } ∧
  F 0 = true ∧ F 1 = true ∧ F 2 = true ∧ F 3 = true ∧ F 4 = true ∧ F 5 = true ∧ F 6 = true ∧ F 7 = true ∧ F 8 = true ∧ F 9 = true ∧ F 10 = true ∧
  Grow H gt w W 76 2 (.slice A5 (q + 1) c5) (q + 1) (rowP (Ps ++ [(nm, vl)])) [] none 0 [] #[x0, x1, x2, u, x4] ∧
  (F 11 = true → s15 = .pointer (some ⟨gt, 3, none⟩)) ∧ (F 12 = false → u = .slice A3 q c3) ∧ (F 12 = true → u = .slice A5 (q + 1) c5)
set_option maxHeartbeats 16000000 in
theorem attr_region (H gt gs sb m : Nat) (x0 x1 x2 x4 : Value) (A3 : Option Addr) (q c3 : Nat) (Ps : List (List UInt8 × List UInt8)) (nm vl : List UInt8) (lim c : Nat) (A : Option Addr) (Ls : List En) (w : World) (Q : Exit → Act → World → Prop) (hS : StoreAt w sb lim A c Ls) (hsH : sb < H) (hsg : sb ≠ gt) (hrow : ∀ b, blkOf A = some b → b < H ∧ b ≠ gt) (hgs : gs < H) (hgg : gs ≠ gt) (hbox : w.cell? ⟨gs, 0, none⟩ = some (.pointer (some ⟨sb, 0, none⟩)))
    (hj : q ≤ 1048576) (h0 : Grow H gt w w 76 2 (.slice A3 q c3) q (rowP Ps) [] none 0 [] #[x0, x1, x2, .slice A3 q c3, x4])
    (HN : Hid (∀ w1 : World, StoreAt w1 sb lim A c Ls → Calls Tryd.prog 55 #[.pointer (some ⟨sb, 0, none⟩), .int .i64 (m : Int)] w1 fun e w' => e = .returned (.string (ba' nm)) ∧ Below w1.heap.size w1 w'))
    (HV : Hid (∀ w1 : World, StoreAt w1 sb lim A c Ls → Calls Tryd.prog 28 #[.pointer (some ⟨sb, 0, none⟩), .int .i64 (m : Int)] w1 fun e w' => e = .returned (.string (ba' vl)) ∧ Below w1.heap.size w1 w'))
    (hQ : ∀ (a : Act) (W : World) (A5 : Option Addr) (c5 : Nat), a.defers = [] → Grow H gt w W 76 2 (.slice A5 (q + 1) c5) (q + 1) (rowP (Ps ++ [(nm, vl)])) [] none 0 [] #[x0, x1, x2, .slice A5 (q + 1) c5, x4] → Q .normal a W) :
    Code.wp Tryd.prog ((Tryd.f60.body.bind (regionOf 0)).getD .skip) Q { tmps := #[.int .i64 (m : Int), (.pointer (some ⟨gt, 0, none⟩)), (.pointer (some ⟨gs, 0, none⟩)), undef, undef, undef, undef, undef, undef, undef, undef, undef, undef, undef, undef, undef], defers := [] } w := by
  conv => arg 2; whnf
  refine wp_region_inv (by kernel_rfl) (by kernel_rfl) (fun l a W => AttA H gt gs sb m x0 x1 x2 x4 A3 q c3 Ps nm vl w (fun i => l.getD i false) a W ∨ AttB H gt gs sb m x0 x1 x2 x4 A3 q c3 Ps nm vl w (fun i => l.getD i false) a W) ?_ ?_ ?_
  · exact .inl ⟨_, _, _, _, _, _, _, _, _, _, _, rfl, rfl, rfl, fun h => absurd h l0, fun h => absurd h l0, fun h => absurd h l0, fun h => absurd h l0, fun h => absurd h l0, fun h => absurd h l0, fun h => absurd h l0, fun h => absurd h l0, fun h => absurd h l0, h0.drew, fun h => absurd h l0, fun h => absurd h l0, fun h => absurd h l0, fun h => absurd h l0, fun h => absurd h l0, fun h => absurd h l0, fun h => absurd h l0, fun h => absurd h l0, fun h => absurd h l0, fun h => absurd h l0⟩
  · intro i o listed A w9 hi ho hd hn hI
    have hi' : i < 13 := hi
    clear hi
    rcases (by omega : i = 0 ∨ i = 1 ∨ i = 2 ∨ i = 3 ∨ i = 4 ∨ i = 5 ∨ i = 6 ∨ i = 7 ∨ i = 8 ∨ i = 9 ∨ i = 10 ∨ i = 11 ∨ i = 12) with rfl | rfl | rfl | rfl | rfl | rfl | rfl | rfl | rfl | rfl | rfl | rfl | rfl
    · simp only [List.getElem?_toArray, List.getElem?_cons_zero, Option.some.injEq] at ho
      subst ho
      rcases hI with hI | hI
      · obtain ⟨s4, s5, s6, s7, s8, s9, s10, s11, s12, s13, s15, rfl, q10, q12, g10, g98, g84, g87, g42, g43, g75, g76, f11, hG, f0, f1, f2, f3, f4, f5, f6, f7, f8, f9⟩ := hI
        refine wpOp_step rfl (fun K hK => ?_)
        go_simp
        refine hK _ _ (.inl ?_)
        unfold AttA
        simp only [flag_ne (i := 0) 1 (by decide), flag_ne (i := 0) 2 (by decide), flag_ne (i := 0) 3 (by decide), flag_ne (i := 0) 4 (by decide), flag_ne (i := 0) 5 (by decide), flag_ne (i := 0) 6 (by decide), flag_ne (i := 0) 7 (by decide), flag_ne (i := 0) 8 (by decide), flag_ne (i := 0) 9 (by decide), flag_ne (i := 0) 10 (by decide), flag_ne (i := 0) 11 (by decide), flag_ne (i := 0) 12 (by decide), lself hn]
        exact ⟨_, _, _, _, _, _, _, _, _, _, _, rfl, q10, q12, (by first | exact fun _ => rfl | exact fun _ => trivial | trivial), fun h => g98 h, fun h => g84 h, fun h => g87 h, fun h => g42 h, fun h => g43 h, fun h => g75 h, fun h => g76 h, fun h => f11 h, hG, fun _ => rfl, fun h => f1 h, fun h => f2 h, fun h => f3 h, fun h => f4 h, fun h => f5 h, fun h => f6 h, fun h => f7 h, fun h => f8 h, fun h => f9 h⟩
      · obtain ⟨s4, s5, s6, s7, s8, s9, s10, s11, s12, s13, s15, A5, c5, u, rfl, q0, q1, q2, q3, q4, q5, q6, q7, q8, q9, q10, hG, f11, f12, f12'⟩ := hI
        exact lc hn q0
    · simp only [List.getElem?_toArray, List.getElem?_cons_zero, List.getElem?_cons_succ, Option.some.injEq] at ho
      subst ho
      rcases hI with hI | hI
      · obtain ⟨s4, s5, s6, s7, s8, s9, s10, s11, s12, s13, s15, rfl, q10, q12, g10, g98, g84, g87, g42, g43, g75, g76, f11, hG, f0, f1, f2, f3, f4, f5, f6, f7, f8, f9⟩ := hI
        obtain rfl := f0 (hd ⟨0, .data⟩ (by simp) rfl)
        have hc := hG.box.cell 3
        simp only [List.getElem?_toArray, List.getElem?_cons_zero, List.getElem?_cons_succ] at hc
        refine wpOp_step rfl (fun K hK => ?_)
        go_simp
        refine hK _ _ (.inl ?_)
        unfold AttA
        simp only [flag_ne (i := 1) 0 (by decide), flag_ne (i := 1) 2 (by decide), flag_ne (i := 1) 3 (by decide), flag_ne (i := 1) 4 (by decide), flag_ne (i := 1) 5 (by decide), flag_ne (i := 1) 6 (by decide), flag_ne (i := 1) 7 (by decide), flag_ne (i := 1) 8 (by decide), flag_ne (i := 1) 9 (by decide), flag_ne (i := 1) 10 (by decide), flag_ne (i := 1) 11 (by decide), flag_ne (i := 1) 12 (by decide), lself hn]
        exact ⟨_, _, _, _, _, _, _, _, _, _, _, rfl, q10, q12, fun _ => (hd ⟨0, .data⟩ (by simp) rfl), fun h => g98 h, fun h => g84 h, fun h => g87 h, fun h => g42 h, fun h => g43 h, fun h => g75 h, fun h => g76 h, fun h => f11 h, hG, fun h => f0 h, fun _ => rfl, fun h => f2 h, fun h => f3 h, fun h => f4 h, fun h => f5 h, fun h => f6 h, fun h => f7 h, fun h => f8 h, fun h => f9 h⟩
      · obtain ⟨s4, s5, s6, s7, s8, s9, s10, s11, s12, s13, s15, A5, c5, u, rfl, q0, q1, q2, q3, q4, q5, q6, q7, q8, q9, q10, hG, f11, f12, f12'⟩ := hI
        exact lc hn q1
    · simp only [List.getElem?_toArray, List.getElem?_cons_zero, List.getElem?_cons_succ, Option.some.injEq] at ho
      subst ho
      rcases hI with hI | hI
      · obtain ⟨s4, s5, s6, s7, s8, s9, s10, s11, s12, s13, s15, rfl, q10, q12, g10, g98, g84, g87, g42, g43, g75, g76, f11, hG, f0, f1, f2, f3, f4, f5, f6, f7, f8, f9⟩ := hI
        have hc := (hG.keep.cell (p := ⟨gs, 0, none⟩) hgs hgg).trans hbox
        refine wpOp_step rfl (fun K hK => ?_)
        go_simp
        refine hK _ _ (.inl ?_)
        unfold AttA
        simp only [flag_ne (i := 2) 0 (by decide), flag_ne (i := 2) 1 (by decide), flag_ne (i := 2) 3 (by decide), flag_ne (i := 2) 4 (by decide), flag_ne (i := 2) 5 (by decide), flag_ne (i := 2) 6 (by decide), flag_ne (i := 2) 7 (by decide), flag_ne (i := 2) 8 (by decide), flag_ne (i := 2) 9 (by decide), flag_ne (i := 2) 10 (by decide), flag_ne (i := 2) 11 (by decide), flag_ne (i := 2) 12 (by decide), lself hn]
        exact ⟨_, _, _, _, _, _, _, _, _, _, _, rfl, q10, q12, fun h => g10 h, fun h => g98 h, fun h => g84 h, fun h => g87 h, (by first | exact fun _ => rfl | exact fun _ => trivial | trivial), fun h => g43 h, fun h => g75 h, fun h => g76 h, fun h => f11 h, hG, fun h => f0 h, fun h => f1 h, fun _ => rfl, fun h => f3 h, fun h => f4 h, fun h => f5 h, fun h => f6 h, fun h => f7 h, fun h => f8 h, fun h => f9 h⟩
      · obtain ⟨s4, s5, s6, s7, s8, s9, s10, s11, s12, s13, s15, A5, c5, u, rfl, q0, q1, q2, q3, q4, q5, q6, q7, q8, q9, q10, hG, f11, f12, f12'⟩ := hI
        exact lc hn q2
    · simp only [List.getElem?_toArray, List.getElem?_cons_zero, List.getElem?_cons_succ, Option.some.injEq] at ho
      subst ho
      rcases hI with hI | hI
      · obtain ⟨s4, s5, s6, s7, s8, s9, s10, s11, s12, s13, s15, rfl, q10, q12, g10, g98, g84, g87, g42, g43, g75, g76, f11, hG, f0, f1, f2, f3, f4, f5, f6, f7, f8, f9⟩ := hI
        refine wpOp_step rfl (fun K hK => ?_)
        go_simp
        refine hK _ _ (.inl ?_)
        unfold AttA
        simp only [flag_ne (i := 3) 0 (by decide), flag_ne (i := 3) 1 (by decide), flag_ne (i := 3) 2 (by decide), flag_ne (i := 3) 4 (by decide), flag_ne (i := 3) 5 (by decide), flag_ne (i := 3) 6 (by decide), flag_ne (i := 3) 7 (by decide), flag_ne (i := 3) 8 (by decide), flag_ne (i := 3) 9 (by decide), flag_ne (i := 3) 10 (by decide), flag_ne (i := 3) 11 (by decide), flag_ne (i := 3) 12 (by decide), lself hn]
        exact ⟨_, _, _, _, _, _, _, _, _, _, _, rfl, q10, q12, fun h => g10 h, fun h => g98 h, fun h => g84 h, fun h => g87 h, fun h => g42 h, (by first | exact fun _ => rfl | exact fun _ => trivial | trivial), fun h => g75 h, fun h => g76 h, fun h => f11 h, hG, fun h => f0 h, fun h => f1 h, fun h => f2 h, fun _ => rfl, fun h => f4 h, fun h => f5 h, fun h => f6 h, fun h => f7 h, fun h => f8 h, fun h => f9 h⟩
      · obtain ⟨s4, s5, s6, s7, s8, s9, s10, s11, s12, s13, s15, A5, c5, u, rfl, q0, q1, q2, q3, q4, q5, q6, q7, q8, q9, q10, hG, f11, f12, f12'⟩ := hI
        exact lc hn q3
    · simp only [List.getElem?_toArray, List.getElem?_cons_zero, List.getElem?_cons_succ, Option.some.injEq] at ho
      subst ho
      rcases hI with hI | hI
      · obtain ⟨s4, s5, s6, s7, s8, s9, s10, s11, s12, s13, s15, rfl, q10, q12, g10, g98, g84, g87, g42, g43, g75, g76, f11, hG, f0, f1, f2, f3, f4, f5, f6, f7, f8, f9⟩ := hI
        obtain rfl := f2 (hd ⟨2, .data⟩ (by simp) rfl)
        obtain rfl := f3 (hd ⟨3, .data⟩ (by simp) rfl)
        have hSt := hS.keep hG.keep hsH hsg hrow
        refine wpOp_step rfl (fun K hK => ?_)
        go_simp
        go_at_call 55
        refine (HN.out _ hSt).mono ?_
        rintro e w' ⟨rfl, hb⟩
        refine hK _ _ (.inl ?_)
        unfold AttA
        simp only [flag_ne (i := 4) 0 (by decide), flag_ne (i := 4) 1 (by decide), flag_ne (i := 4) 2 (by decide), flag_ne (i := 4) 3 (by decide), flag_ne (i := 4) 5 (by decide), flag_ne (i := 4) 6 (by decide), flag_ne (i := 4) 7 (by decide), flag_ne (i := 4) 8 (by decide), flag_ne (i := 4) 9 (by decide), flag_ne (i := 4) 10 (by decide), flag_ne (i := 4) 11 (by decide), flag_ne (i := 4) 12 (by decide), lself hn]
        exact ⟨_, _, _, _, _, _, _, _, _, _, _, rfl, q10, q12, fun h => g10 h, fun h => g98 h, (by first | exact fun _ => rfl | exact fun _ => trivial | trivial), fun h => g87 h, fun _ => (hd ⟨2, .data⟩ (by simp) rfl), fun _ => (hd ⟨3, .data⟩ (by simp) rfl), fun h => g75 h, fun h => g76 h, fun h => f11 h, hG.below hb, fun h => f0 h, fun h => f1 h, fun h => f2 h, fun h => f3 h, fun _ => rfl, fun h => f5 h, fun h => f6 h, fun h => f7 h, fun h => f8 h, fun h => (f9 h).elim fun Az h => h.elim fun cz h => ⟨Az, cz, h.1, KB.rd_below h.2 hb⟩⟩
      · obtain ⟨s4, s5, s6, s7, s8, s9, s10, s11, s12, s13, s15, A5, c5, u, rfl, q0, q1, q2, q3, q4, q5, q6, q7, q8, q9, q10, hG, f11, f12, f12'⟩ := hI
        exact lc hn q4
    · simp only [List.getElem?_toArray, List.getElem?_cons_zero, List.getElem?_cons_succ, Option.some.injEq] at ho
      subst ho
      rcases hI with hI | hI
      · obtain ⟨s4, s5, s6, s7, s8, s9, s10, s11, s12, s13, s15, rfl, q10, q12, g10, g98, g84, g87, g42, g43, g75, g76, f11, hG, f0, f1, f2, f3, f4, f5, f6, f7, f8, f9⟩ := hI
        have hc := (hG.keep.cell (p := ⟨gs, 0, none⟩) hgs hgg).trans hbox
        refine wpOp_step rfl (fun K hK => ?_)
        go_simp
        refine hK _ _ (.inl ?_)
        unfold AttA
        simp only [flag_ne (i := 5) 0 (by decide), flag_ne (i := 5) 1 (by decide), flag_ne (i := 5) 2 (by decide), flag_ne (i := 5) 3 (by decide), flag_ne (i := 5) 4 (by decide), flag_ne (i := 5) 6 (by decide), flag_ne (i := 5) 7 (by decide), flag_ne (i := 5) 8 (by decide), flag_ne (i := 5) 9 (by decide), flag_ne (i := 5) 10 (by decide), flag_ne (i := 5) 11 (by decide), flag_ne (i := 5) 12 (by decide), lself hn]
        exact ⟨_, _, _, _, _, _, _, _, _, _, _, rfl, q10, q12, fun h => g10 h, fun h => g98 h, fun h => g84 h, fun h => g87 h, fun h => g42 h, fun h => g43 h, (by first | exact fun _ => rfl | exact fun _ => trivial | trivial), fun h => g76 h, fun h => f11 h, hG, fun h => f0 h, fun h => f1 h, fun h => f2 h, fun h => f3 h, fun h => f4 h, fun _ => rfl, fun h => f6 h, fun h => f7 h, fun h => f8 h, fun h => f9 h⟩
      · obtain ⟨s4, s5, s6, s7, s8, s9, s10, s11, s12, s13, s15, A5, c5, u, rfl, q0, q1, q2, q3, q4, q5, q6, q7, q8, q9, q10, hG, f11, f12, f12'⟩ := hI
        exact lc hn q5
    · simp only [List.getElem?_toArray, List.getElem?_cons_zero, List.getElem?_cons_succ, Option.some.injEq] at ho
      subst ho
      rcases hI with hI | hI
      · obtain ⟨s4, s5, s6, s7, s8, s9, s10, s11, s12, s13, s15, rfl, q10, q12, g10, g98, g84, g87, g42, g43, g75, g76, f11, hG, f0, f1, f2, f3, f4, f5, f6, f7, f8, f9⟩ := hI
        refine wpOp_step rfl (fun K hK => ?_)
        go_simp
        refine hK _ _ (.inl ?_)
        unfold AttA
        simp only [flag_ne (i := 6) 0 (by decide), flag_ne (i := 6) 1 (by decide), flag_ne (i := 6) 2 (by decide), flag_ne (i := 6) 3 (by decide), flag_ne (i := 6) 4 (by decide), flag_ne (i := 6) 5 (by decide), flag_ne (i := 6) 7 (by decide), flag_ne (i := 6) 8 (by decide), flag_ne (i := 6) 9 (by decide), flag_ne (i := 6) 10 (by decide), flag_ne (i := 6) 11 (by decide), flag_ne (i := 6) 12 (by decide), lself hn]
        exact ⟨_, _, _, _, _, _, _, _, _, _, _, rfl, q10, q12, fun h => g10 h, fun h => g98 h, fun h => g84 h, fun h => g87 h, fun h => g42 h, fun h => g43 h, fun h => g75 h, (by first | exact fun _ => rfl | exact fun _ => trivial | trivial), fun h => f11 h, hG, fun h => f0 h, fun h => f1 h, fun h => f2 h, fun h => f3 h, fun h => f4 h, fun h => f5 h, fun _ => rfl, fun h => f7 h, fun h => f8 h, fun h => f9 h⟩
      · obtain ⟨s4, s5, s6, s7, s8, s9, s10, s11, s12, s13, s15, A5, c5, u, rfl, q0, q1, q2, q3, q4, q5, q6, q7, q8, q9, q10, hG, f11, f12, f12'⟩ := hI
        exact lc hn q6
    · simp only [List.getElem?_toArray, List.getElem?_cons_zero, List.getElem?_cons_succ, Option.some.injEq] at ho
      subst ho
      rcases hI with hI | hI
      · obtain ⟨s4, s5, s6, s7, s8, s9, s10, s11, s12, s13, s15, rfl, q10, q12, g10, g98, g84, g87, g42, g43, g75, g76, f11, hG, f0, f1, f2, f3, f4, f5, f6, f7, f8, f9⟩ := hI
        obtain rfl := f5 (hd ⟨5, .data⟩ (by simp) rfl)
        obtain rfl := f6 (hd ⟨6, .data⟩ (by simp) rfl)
        have hSt := hS.keep hG.keep hsH hsg hrow
        refine wpOp_step rfl (fun K hK => ?_)
        go_simp
        go_at_call 28
        refine (HV.out _ hSt).mono ?_
        rintro e w' ⟨rfl, hb⟩
        refine hK _ _ (.inl ?_)
        unfold AttA
        simp only [flag_ne (i := 7) 0 (by decide), flag_ne (i := 7) 1 (by decide), flag_ne (i := 7) 2 (by decide), flag_ne (i := 7) 3 (by decide), flag_ne (i := 7) 4 (by decide), flag_ne (i := 7) 5 (by decide), flag_ne (i := 7) 6 (by decide), flag_ne (i := 7) 8 (by decide), flag_ne (i := 7) 9 (by decide), flag_ne (i := 7) 10 (by decide), flag_ne (i := 7) 11 (by decide), flag_ne (i := 7) 12 (by decide), lself hn]
        exact ⟨_, _, _, _, _, _, _, _, _, _, _, rfl, q10, q12, fun h => g10 h, fun h => g98 h, fun h => g84 h, (by first | exact fun _ => rfl | exact fun _ => trivial | trivial), fun h => g42 h, fun h => g43 h, fun _ => (hd ⟨5, .data⟩ (by simp) rfl), fun _ => (hd ⟨6, .data⟩ (by simp) rfl), fun h => f11 h, hG.below hb, fun h => f0 h, fun h => f1 h, fun h => f2 h, fun h => f3 h, fun h => f4 h, fun h => f5 h, fun h => f6 h, fun _ => rfl, fun h => f8 h, fun h => (f9 h).elim fun Az h => h.elim fun cz h => ⟨Az, cz, h.1, KB.rd_below h.2 hb⟩⟩
      · obtain ⟨s4, s5, s6, s7, s8, s9, s10, s11, s12, s13, s15, A5, c5, u, rfl, q0, q1, q2, q3, q4, q5, q6, q7, q8, q9, q10, hG, f11, f12, f12'⟩ := hI
        exact lc hn q7
    · simp only [List.getElem?_toArray, List.getElem?_cons_zero, List.getElem?_cons_succ, Option.some.injEq] at ho
      subst ho
      rcases hI with hI | hI
      · obtain ⟨s4, s5, s6, s7, s8, s9, s10, s11, s12, s13, s15, rfl, q10, q12, g10, g98, g84, g87, g42, g43, g75, g76, f11, hG, f0, f1, f2, f3, f4, f5, f6, f7, f8, f9⟩ := hI
        obtain rfl := f4 (hd ⟨4, .data⟩ (by simp) rfl)
        obtain rfl := f7 (hd ⟨7, .data⟩ (by simp) rfl)
        refine wpOp_step rfl (fun K hK => ?_)
        go_simp
        refine hK _ _ (.inl ?_)
        unfold AttA
        simp only [flag_ne (i := 8) 0 (by decide), flag_ne (i := 8) 1 (by decide), flag_ne (i := 8) 2 (by decide), flag_ne (i := 8) 3 (by decide), flag_ne (i := 8) 4 (by decide), flag_ne (i := 8) 5 (by decide), flag_ne (i := 8) 6 (by decide), flag_ne (i := 8) 7 (by decide), flag_ne (i := 8) 9 (by decide), flag_ne (i := 8) 10 (by decide), flag_ne (i := 8) 11 (by decide), flag_ne (i := 8) 12 (by decide), lself hn]
        exact ⟨_, _, _, _, _, _, _, _, _, _, _, rfl, q10, q12, fun h => g10 h, (by first | exact fun _ => rfl | exact fun _ => trivial | trivial), fun _ => (hd ⟨4, .data⟩ (by simp) rfl), fun _ => (hd ⟨7, .data⟩ (by simp) rfl), fun h => g42 h, fun h => g43 h, fun h => g75 h, fun h => g76 h, fun h => f11 h, hG, fun h => f0 h, fun h => f1 h, fun h => f2 h, fun h => f3 h, fun h => f4 h, fun h => f5 h, fun h => f6 h, fun h => f7 h, fun _ => rfl, fun h => f9 h⟩
      · obtain ⟨s4, s5, s6, s7, s8, s9, s10, s11, s12, s13, s15, A5, c5, u, rfl, q0, q1, q2, q3, q4, q5, q6, q7, q8, q9, q10, hG, f11, f12, f12'⟩ := hI
        exact lc hn q8
    · simp only [List.getElem?_toArray, List.getElem?_cons_zero, List.getElem?_cons_succ, Option.some.injEq] at ho
      subst ho
      rcases hI with hI | hI
      · obtain ⟨s4, s5, s6, s7, s8, s9, s10, s11, s12, s13, s15, rfl, q10, q12, g10, g98, g84, g87, g42, g43, g75, g76, f11, hG, f0, f1, f2, f3, f4, f5, f6, f7, f8, f9⟩ := hI
        obtain rfl := f8 (hd ⟨8, .data⟩ (by simp) rfl)
        refine wpOp_step rfl (fun K hK => ?_)
        go_simp
        refine hK _ _ (.inl ?_)
        unfold AttA
        simp only [flag_ne (i := 9) 0 (by decide), flag_ne (i := 9) 1 (by decide), flag_ne (i := 9) 2 (by decide), flag_ne (i := 9) 3 (by decide), flag_ne (i := 9) 4 (by decide), flag_ne (i := 9) 5 (by decide), flag_ne (i := 9) 6 (by decide), flag_ne (i := 9) 7 (by decide), flag_ne (i := 9) 8 (by decide), flag_ne (i := 9) 10 (by decide), flag_ne (i := 9) 11 (by decide), flag_ne (i := 9) 12 (by decide), lself hn]
        exact ⟨_, _, _, _, _, _, _, _, _, _, _, rfl, q10, q12, fun h => g10 h, fun _ => (hd ⟨8, .data⟩ (by simp) rfl), fun h => g84 h, fun h => g87 h, fun h => g42 h, fun h => g43 h, fun h => g75 h, fun h => g76 h, fun h => f11 h, hG.new _, fun h => f0 h, fun h => f1 h, fun h => f2 h, fun h => f3 h, fun h => f4 h, fun h => f5 h, fun h => f6 h, fun h => f7 h, fun h => f8 h, fun _ => ⟨_, _, rfl, rfl, fun _ => ⟨_, rfl, ⟨hG.big, by simp, fun e => by have := (own_lt hG.own e).2; simp at this⟩, two_new _ _ _ _⟩⟩⟩
      · obtain ⟨s4, s5, s6, s7, s8, s9, s10, s11, s12, s13, s15, A5, c5, u, rfl, q0, q1, q2, q3, q4, q5, q6, q7, q8, q9, q10, hG, f11, f12, f12'⟩ := hI
        exact lc hn q9
    · simp only [List.getElem?_toArray, List.getElem?_cons_zero, List.getElem?_cons_succ, Option.some.injEq] at ho
      subst ho
      rcases hI with hI | hI
      · obtain ⟨s4, s5, s6, s7, s8, s9, s10, s11, s12, s13, s15, rfl, q10, q12, g10, g98, g84, g87, g42, g43, g75, g76, f11, hG, f0, f1, f2, f3, f4, f5, f6, f7, f8, f9⟩ := hI
        have b1 := (hd ⟨1, .data⟩ (by simp) rfl)
        have b9 := (hd ⟨9, .data⟩ (by simp) rfl)
        have b8 := g98 b9
        have b4 := g84 b8
        have b7 := g87 b8
        have b2 := g42 b4
        have b3 := g43 b4
        have b5 := g75 b7
        have b6 := g76 b7
        have b0 := g10 b1
        obtain rfl := f1 b1
        obtain ⟨Az, cz, rfl, hz⟩ := f9 b9
        obtain ⟨i2, hi2, hz20, hz21, hz22⟩ := info_parts pair_info
        refine wpOp_step rfl (fun K hK => ?_)
        refine wp_append_any _ _ _ _ rfl H 76 i2 _ 2 32 Tryd.underlying31 hi2 hz20 hz21 hz22 rfl (by omega) (.slice A3 q c3) q (rowP Ps) rfl hG.own w9.heap.size Az 1 cz _ rfl (RdP.reads hz (fun b hb => hb.2.1)) (by intro u hu; simp at hu; rcases hu with rfl | rfl <;> rfl) (by simp only [maxLen]; omega) (by omega) hG.big ?_
        intro v5 w5 hown5 hg5 hat5
        rw [show rowP Ps ++ [.string (ba' nm), .string (ba' vl)] = rowP (Ps ++ [(nm, vl)]) from (rowP_snoc Ps (nm, vl)).symm] at hown5
        have hG5 := hG.row hown5 hg5 hat5
        obtain ⟨A5, c5, rfl⟩ := own_slice hown5
        refine hK _ _ (.inr ?_)
        unfold AttB
        simp only [flag_ne (i := 10) 0 (by decide), flag_ne (i := 10) 1 (by decide), flag_ne (i := 10) 2 (by decide), flag_ne (i := 10) 3 (by decide), flag_ne (i := 10) 4 (by decide), flag_ne (i := 10) 5 (by decide), flag_ne (i := 10) 6 (by decide), flag_ne (i := 10) 7 (by decide), flag_ne (i := 10) 8 (by decide), flag_ne (i := 10) 9 (by decide), flag_ne (i := 10) 11 (by decide), flag_ne (i := 10) 12 (by decide), lself hn]
        exact ⟨_, _, _, _, _, _, _, _, _, _, _, A5, c5, _, rfl, b0, b1, b2, b3, b4, b5, b6, b7, b8, b9, (by first | rfl | trivial), hG5, fun h => f11 h, fun _ => rfl, fun h => absurd h (by simp [q12])⟩
      · obtain ⟨s4, s5, s6, s7, s8, s9, s10, s11, s12, s13, s15, A5, c5, u, rfl, q0, q1, q2, q3, q4, q5, q6, q7, q8, q9, q10, hG, f11, f12, f12'⟩ := hI
        exact lc hn q10
    · simp only [List.getElem?_toArray, List.getElem?_cons_zero, List.getElem?_cons_succ, Option.some.injEq] at ho
      subst ho
      rcases hI with hI | hI
      · obtain ⟨s4, s5, s6, s7, s8, s9, s10, s11, s12, s13, s15, rfl, q10, q12, g10, g98, g84, g87, g42, g43, g75, g76, f11, hG, f0, f1, f2, f3, f4, f5, f6, f7, f8, f9⟩ := hI
        refine wpOp_step rfl (fun K hK => ?_)
        go_simp
        refine hK _ _ (.inl ?_)
        unfold AttA
        simp only [flag_ne (i := 11) 0 (by decide), flag_ne (i := 11) 1 (by decide), flag_ne (i := 11) 2 (by decide), flag_ne (i := 11) 3 (by decide), flag_ne (i := 11) 4 (by decide), flag_ne (i := 11) 5 (by decide), flag_ne (i := 11) 6 (by decide), flag_ne (i := 11) 7 (by decide), flag_ne (i := 11) 8 (by decide), flag_ne (i := 11) 9 (by decide), flag_ne (i := 11) 10 (by decide), flag_ne (i := 11) 12 (by decide), lself hn]
        exact ⟨_, _, _, _, _, _, _, _, _, _, _, rfl, q10, q12, fun h => g10 h, fun h => g98 h, fun h => g84 h, fun h => g87 h, fun h => g42 h, fun h => g43 h, fun h => g75 h, fun h => g76 h, fun _ => rfl, hG, fun h => f0 h, fun h => f1 h, fun h => f2 h, fun h => f3 h, fun h => f4 h, fun h => f5 h, fun h => f6 h, fun h => f7 h, fun h => f8 h, fun h => f9 h⟩
      · obtain ⟨s4, s5, s6, s7, s8, s9, s10, s11, s12, s13, s15, A5, c5, u, rfl, q0, q1, q2, q3, q4, q5, q6, q7, q8, q9, q10, hG, f11, f12, f12'⟩ := hI
        refine wpOp_step rfl (fun K hK => ?_)
        go_simp
        refine hK _ _ (.inr ?_)
        unfold AttB
        simp only [flag_ne (i := 11) 0 (by decide), flag_ne (i := 11) 1 (by decide), flag_ne (i := 11) 2 (by decide), flag_ne (i := 11) 3 (by decide), flag_ne (i := 11) 4 (by decide), flag_ne (i := 11) 5 (by decide), flag_ne (i := 11) 6 (by decide), flag_ne (i := 11) 7 (by decide), flag_ne (i := 11) 8 (by decide), flag_ne (i := 11) 9 (by decide), flag_ne (i := 11) 10 (by decide), flag_ne (i := 11) 12 (by decide), lself hn]
        exact ⟨_, _, _, _, _, _, _, _, _, _, _, A5, c5, _, rfl, q0, q1, q2, q3, q4, q5, q6, q7, q8, q9, q10, hG, fun _ => rfl, fun h => f12 h, fun h => f12' h⟩
    · simp only [List.getElem?_toArray, List.getElem?_cons_zero, List.getElem?_cons_succ, Option.some.injEq] at ho
      subst ho
      rcases hI with hI | hI
      · obtain ⟨s4, s5, s6, s7, s8, s9, s10, s11, s12, s13, s15, rfl, q10, q12, g10, g98, g84, g87, g42, g43, g75, g76, f11, hG, f0, f1, f2, f3, f4, f5, f6, f7, f8, f9⟩ := hI
        have := hd ⟨10, .data⟩ (by simp) rfl
        simp [q10] at this
      · obtain ⟨s4, s5, s6, s7, s8, s9, s10, s11, s12, s13, s15, A5, c5, u, rfl, q0, q1, q2, q3, q4, q5, q6, q7, q8, q9, q10, hG, f11, f12, f12'⟩ := hI
        obtain rfl := f11 (hd ⟨11, .data⟩ (by simp) rfl)
        have hfr := hG.box.frozen 3
        have hc := hG.box.cell 3
        simp only [List.getElem?_toArray, List.getElem?_cons_zero, List.getElem?_cons_succ] at hc
        refine wpOp_step rfl (fun K hK => ?_)
        go_simp
        refine hK _ _ (.inr ?_)
        unfold AttB
        simp only [flag_ne (i := 12) 0 (by decide), flag_ne (i := 12) 1 (by decide), flag_ne (i := 12) 2 (by decide), flag_ne (i := 12) 3 (by decide), flag_ne (i := 12) 4 (by decide), flag_ne (i := 12) 5 (by decide), flag_ne (i := 12) 6 (by decide), flag_ne (i := 12) 7 (by decide), flag_ne (i := 12) 8 (by decide), flag_ne (i := 12) 9 (by decide), flag_ne (i := 12) 10 (by decide), flag_ne (i := 12) 11 (by decide), lself hn]
        exact ⟨_, _, _, _, _, _, _, _, _, _, _, A5, c5, _, rfl, q0, q1, q2, q3, q4, q5, q6, q7, q8, q9, q10, (hG.field 3 _), fun h => f11 h, fun h => absurd h (by simp), fun _ => rfl⟩
  · intro l A W hall hI
    rcases hI with hI | hI
    · obtain ⟨s4, s5, s6, s7, s8, s9, s10, s11, s12, s13, s15, rfl, q10, q12, g10, g98, g84, g87, g42, g43, g75, g76, f11, hG, f0, f1, f2, f3, f4, f5, f6, f7, f8, f9⟩ := hI
      have := hall 10 (by decide)
      simp [q10] at this
    · obtain ⟨s4, s5, s6, s7, s8, s9, s10, s11, s12, s13, s15, A5, c5, u, rfl, q0, q1, q2, q3, q4, q5, q6, q7, q8, q9, q10, hG, f11, f12, f12'⟩ := hI
      obtain rfl := f12' (hall 12 (by decide))
      exact hQ _ _ _ _ rfl hG
end Go.Proofs.YtcmlfkoeajpliaaDoor
