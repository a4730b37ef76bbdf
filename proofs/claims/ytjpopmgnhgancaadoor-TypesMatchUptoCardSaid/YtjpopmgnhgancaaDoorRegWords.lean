/- Rows of types in blocks of their own; what an operation leaves. No condition beyond what the theorems state. -/
import Derived.Test.YtjpopmgnhgancaaDoorRight
import Derived.Test.YtjpopmgnhgancaaDoorWords
namespace Go.Proofs.YtjpopmgnhgancaaDoor
open Go.RowKit Go.Lib
set_option maxRecDepth 100000
def SL (w : World) (ts : List TT) (n : Nat) (s : Value) : Prop := ∃ g, s = .slice (some ⟨g, 0, none⟩) n n ∧ g < w.heap.size ∧ TRow w g ts
theorem SL.below {w w' : World} {ts : List TT} {n : Nat} {s : Value} (h : SL w ts n s) (hb : Below w.heap.size w w') : SL w' ts n s := by
  obtain ⟨g, h1, h2, h3⟩ := h
  exact ⟨g, h1, zz hb h2, h3.below hb⟩
theorem SL.alloc {w : World} {ts : List TT} {n : Nat} {s : Value} (h : SL w ts n s) (o : Obj) : SL (w.alloc o) ts n s := h.below (ba (Below.refl _ _))
theorem cell_new {w : World} {o : Obj} {B i : Nat} {v : Value} (h : w.cell? ⟨B, i, none⟩ = some v) : (w.alloc o).cell? ⟨B, i, none⟩ = some v := (bcell (ba (Below.refl _ w))).1 B i (World.block_lt_of_cell? w _ h) |>.trans h
theorem row2_new (w : World) (a b : TT) : TRow (w.alloc (.cells #[.int .i64 (a.k.i : Nat), .string (ba' a.k.n), .int .i64 (a.o : Nat), .int .i64 (b.k.i : Nat), .string (ba' b.k.n), .int .i64 (b.o : Nat)] 26)) w.heap.size [a, b] :=
  row2 a b (by go_simp) (by go_simp) (by go_simp) (by go_simp) (by go_simp) (by go_simp)
/-- What an operation leaves: a value, a row of types, or nothing told. -/
inductive Sp where
  | val (v : Value)
  | sl (ts : List TT) (n : Nat)
  | any
def Sp.holds : Sp → World → Value → Prop
  | .val v, _, x => x = v
  | .sl ts n, w, x => SL w ts n x
  | .any, _, _ => True
theorem Sp.mono (s : Sp) {w w' : World} {v : Value} (hb : Below w.heap.size w w') (h : s.holds w v) : s.holds w' v := by
  cases s with
  | val x => exact h
  | sl ts n => exact SL.below h hb
  | any => trivial
theorem tmp' {a : Act} {d : Nat} {v : Value} (h : a.tmps.getD d undef = v) : a.tmps[d]?.getD undef = v := by
  rw [Array.getD_eq_getD_getElem?] at h; exact h
end Go.Proofs.YtjpopmgnhgancaaDoor
