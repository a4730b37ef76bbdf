/- The statement TypesEven: its end, a region that draws its order. No condition beyond what the theorems state. -/
import Derived.Test.YtjpopmgnhgancaaDoorRegWords
namespace Go.Proofs.YtjpopmgnhgancaaDoor
open Go.RowKit Go.Lib
set_option maxRecDepth 100000
def EvSp (_ga _gb _gc _g1 _gs : Nat) (bi bo : Nat) (bn : List UInt8) (ci co : Nat) (cn : List UInt8) (xi xo : Nat) (xn : List UInt8) (yi yo : Nat) (yn : List UInt8) (zi zo : Nat) (zn : List UInt8) (vi vo : Nat) (vn : List UInt8) (ui uo : Nat) (un : List UInt8) (ti to : Nat) (tn : List UInt8) (ai ao : Nat) (an : List UInt8) : List Sp := [.val (.agg #[.int .i64 (ai : Nat), .string (ba' an), .int .i64 (ao : Nat)]), .val (.agg #[.int .i64 (bi : Nat), .string (ba' bn), .int .i64 (bo : Nat)]), .sl [⟨⟨ai, an⟩, ao⟩, ⟨⟨bi, bn⟩, bo⟩] 2, .val (.agg #[.int .i64 (xi : Nat), .string (ba' xn), .int .i64 (xo : Nat)]), .val (.agg #[.int .i64 (bi : Nat), .string (ba' bn), .int .i64 (bo : Nat)]), .val (.agg #[.int .i64 (ai : Nat), .string (ba' an), .int .i64 (ao : Nat)]), .sl [⟨⟨bi, bn⟩, bo⟩, ⟨⟨ai, an⟩, ao⟩] 2, .val (.agg #[.int .i64 (xi : Nat), .string (ba' xn), .int .i64 (xo : Nat)]), .val (.bool true), .val (.bool true), .val (.agg #[.int .i64 (ai : Nat), .string (ba' an), .int .i64 (ao : Nat)]), .val (.agg #[.int .i64 (bi : Nat), .string (ba' bn), .int .i64 (bo : Nat)]), .sl [⟨⟨ai, an⟩, ao⟩, ⟨⟨bi, bn⟩, bo⟩] 2, .val (.agg #[.int .i64 (yi : Nat), .string (ba' yn), .int .i64 (yo : Nat)]), .val (.agg #[.int .i64 (bi : Nat), .string (ba' bn), .int .i64 (bo : Nat)]), .val (.agg #[.int .i64 (ai : Nat), .string (ba' an), .int .i64 (ao : Nat)]), .sl [⟨⟨bi, bn⟩, bo⟩, ⟨⟨ai, an⟩, ao⟩] 2, .val (.agg #[.int .i64 (yi : Nat), .string (ba' yn), .int .i64 (yo : Nat)]), .val (.bool true), .val (.bool true), .val (.bool true), .val (.agg #[.int .i64 (ai : Nat), .string (ba' an), .int .i64 (ao : Nat)]), .val (.agg #[.int .i64 (bi : Nat), .string (ba' bn), .int .i64 (bo : Nat)]), .sl [⟨⟨ai, an⟩, ao⟩, ⟨⟨bi, bn⟩, bo⟩] 2, .val (.agg #[.int .i64 (xi : Nat), .string (ba' xn), .int .i64 (xo : Nat)]), .val (.agg #[.int .i64 (ci : Nat), .string (ba' cn), .int .i64 (co : Nat)]), .sl [⟨⟨xi, xn⟩, xo⟩, ⟨⟨ci, cn⟩, co⟩] 2, .val (.agg #[.int .i64 (zi : Nat), .string (ba' zn), .int .i64 (zo : Nat)]), .val (.agg #[.int .i64 (ai : Nat), .string (ba' an), .int .i64 (ao : Nat)]), .val (.agg #[.int .i64 (bi : Nat), .string (ba' bn), .int .i64 (bo : Nat)]), .val (.agg #[.int .i64 (ci : Nat), .string (ba' cn), .int .i64 (co : Nat)]), .sl [⟨⟨bi, bn⟩, bo⟩, ⟨⟨ci, cn⟩, co⟩] 2, .val (.agg #[.int .i64 (vi : Nat), .string (ba' vn), .int .i64 (vo : Nat)]), .sl [⟨⟨ai, an⟩, ao⟩, ⟨⟨vi, vn⟩, vo⟩] 2, .val (.agg #[.int .i64 (zi : Nat), .string (ba' zn), .int .i64 (zo : Nat)]), .val (.bool true), .val (.bool true), .val (.bool true), .val (.agg #[.int .i64 (ai : Nat), .string (ba' an), .int .i64 (ao : Nat)]), .val (.agg #[.int .i64 (bi : Nat), .string (ba' bn), .int .i64 (bo : Nat)]), .sl [⟨⟨ai, an⟩, ao⟩, ⟨⟨bi, bn⟩, bo⟩] 2, .val (.agg #[.int .i64 (yi : Nat), .string (ba' yn), .int .i64 (yo : Nat)]), .val (.agg #[.int .i64 (ci : Nat), .string (ba' cn), .int .i64 (co : Nat)]), .sl [⟨⟨yi, yn⟩, yo⟩, ⟨⟨ci, cn⟩, co⟩] 2, .val (.agg #[.int .i64 (ti : Nat), .string (ba' tn), .int .i64 (to : Nat)]), .val (.agg #[.int .i64 (ai : Nat), .string (ba' an), .int .i64 (ao : Nat)]), .val (.agg #[.int .i64 (bi : Nat), .string (ba' bn), .int .i64 (bo : Nat)]), .val (.agg #[.int .i64 (ci : Nat), .string (ba' cn), .int .i64 (co : Nat)]), .sl [⟨⟨bi, bn⟩, bo⟩, ⟨⟨ci, cn⟩, co⟩] 2, .val (.agg #[.int .i64 (ui : Nat), .string (ba' un), .int .i64 (uo : Nat)]), .sl [⟨⟨ai, an⟩, ao⟩, ⟨⟨ui, un⟩, uo⟩] 2, .val (.agg #[.int .i64 (ti : Nat), .string (ba' tn), .int .i64 (to : Nat)]), .val (.bool true), .val (.bool true), .val (.bool true), .val (.agg #[.int .i64 3, .string ⟨#[]⟩, .int .i64 0]), .val (.agg #[.int .i64 (ai : Nat), .string (ba' an), .int .i64 (ao : Nat)]), .val (.agg #[.int .i64 (ai : Nat), .string (ba' an), .int .i64 (ao : Nat)]), .val (.agg #[.int .i64 (ai : Nat), .string (ba' an), .int .i64 (ao : Nat)]), .val (.bool true), .val (.bool true), .val (.bool true), .val (.agg #[.int .i64 (ai : Nat), .string (ba' an), .int .i64 (ao : Nat)]), .val (.agg #[.int .i64 (ai : Nat), .string (ba' an), .int .i64 (ao : Nat)]), .val (.bool true), .val (.bool true), .val (undef), .val (undef), .val (undef), .val (undef), .val (undef), .val (undef), .val (undef), .val (undef), .val (.bool true), .val (.bool true), .val (.bool true), .val (.agg #[.int .i64 (ai : Nat), .string (ba' an), .int .i64 (ao : Nat)]), .val (.agg #[.int .i64 (ai : Nat), .string (ba' an), .int .i64 (ao : Nat)]), .val (.bool true), .val (.bool true), .val (.bool true), .val (.agg #[.int .i64 (ai : Nat), .string (ba' an), .int .i64 (ao : Nat)]), .val (.agg #[.int .i64 (ai : Nat), .string (ba' an), .int .i64 (ao : Nat)]), .val (.bool true), .val (.bool true), .val (.bool true)]
set_option maxHeartbeats 16000000 in
theorem Ev_region (ga gb gc g1 gs : Nat) (bi bo : Nat) (bn : List UInt8) (ci co : Nat) (cn : List UInt8) (xi xo : Nat) (xn : List UInt8) (yi yo : Nat) (yn : List UInt8) (zi zo : Nat) (zn : List UInt8) (vi vo : Nat) (vn : List UInt8) (ui uo : Nat) (un : List UInt8) (ti to : Nat) (tn : List UInt8) (ai ao : Nat) (an : List UInt8) (w0 : World) {W : World} {Q : Exit → Act → World → Prop} {a0 : Act} (hsz : a0.tmps.size = 118) (f3 : a0.tmps.getD 3 undef = .pointer (some ⟨ga, 0, none⟩)) (f4 : a0.tmps.getD 4 undef = .pointer (some ⟨gb, 0, none⟩)) (f5 : a0.tmps.getD 5 undef = .pointer (some ⟨gc, 0, none⟩)) (f7 : a0.tmps.getD 7 undef = .pointer (some ⟨g1, 0, none⟩)) (f8 : a0.tmps.getD 8 undef = .pointer (some ⟨gs, 0, none⟩)) (hb0 : Below w0.heap.size w0 W) (C0 : W.cell? ⟨ga, 0, none⟩ = some (.int .i64 (ai : Nat))) (C1 : W.cell? ⟨ga, 1, none⟩ = some (.string (ba' an))) (C2 : W.cell? ⟨ga, 2, none⟩ = some (.int .i64 (ao : Nat))) (C3 : W.cell? ⟨gb, 0, none⟩ = some (.int .i64 (bi : Nat))) (C4 : W.cell? ⟨gb, 1, none⟩ = some (.string (ba' bn))) (C5 : W.cell? ⟨gb, 2, none⟩ = some (.int .i64 (bo : Nat))) (C6 : W.cell? ⟨gc, 0, none⟩ = some (.int .i64 (ci : Nat))) (C7 : W.cell? ⟨gc, 1, none⟩ = some (.string (ba' cn))) (C8 : W.cell? ⟨gc, 2, none⟩ = some (.int .i64 (co : Nat))) (C9 : W.cell? ⟨g1, 0, none⟩ = some (.int .i64 3)) (C10 : W.cell? ⟨g1, 1, none⟩ = some (.string ⟨#[]⟩)) (C11 : W.cell? ⟨g1, 2, none⟩ = some (.int .i64 0)) (C12 : W.cell? ⟨gs, 0, none⟩ = some (.int .i64 (ai : Nat))) (C13 : W.cell? ⟨gs, 1, none⟩ = some (.string (ba' an))) (C14 : W.cell? ⟨gs, 2, none⟩ = some (.int .i64 (ao : Nat))) (Eab : Hid (∀ w1 g, Below w0.heap.size w0 w1 → g < w1.heap.size → TRow w1 g [⟨⟨ai, an⟩, ao⟩, ⟨⟨bi, bn⟩, bo⟩] → Calls Tryd.prog 19 #[.slice (some ⟨g, 0, none⟩) 2 2] w1 fun e w' => e = .returned (.agg #[.int .i64 (xi : Nat), .string (ba' xn), .int .i64 (xo : Nat)]) ∧ Below w1.heap.size w1 w')) (Eba : Hid (∀ w1 g, Below w0.heap.size w0 w1 → g < w1.heap.size → TRow w1 g [⟨⟨bi, bn⟩, bo⟩, ⟨⟨ai, an⟩, ao⟩] → Calls Tryd.prog 19 #[.slice (some ⟨g, 0, none⟩) 2 2] w1 fun e w' => e = .returned (.agg #[.int .i64 (xi : Nat), .string (ba' xn), .int .i64 (xo : Nat)]) ∧ Below w1.heap.size w1 w')) (Jab : Hid (∀ w1 g, Below w0.heap.size w0 w1 → g < w1.heap.size → TRow w1 g [⟨⟨ai, an⟩, ao⟩, ⟨⟨bi, bn⟩, bo⟩] → Calls Tryd.prog 20 #[.slice (some ⟨g, 0, none⟩) 2 2] w1 fun e w' => e = .returned (.agg #[.int .i64 (yi : Nat), .string (ba' yn), .int .i64 (yo : Nat)]) ∧ Below w1.heap.size w1 w')) (Jba : Hid (∀ w1 g, Below w0.heap.size w0 w1 → g < w1.heap.size → TRow w1 g [⟨⟨bi, bn⟩, bo⟩, ⟨⟨ai, an⟩, ao⟩] → Calls Tryd.prog 20 #[.slice (some ⟨g, 0, none⟩) 2 2] w1 fun e w' => e = .returned (.agg #[.int .i64 (yi : Nat), .string (ba' yn), .int .i64 (yo : Nat)]) ∧ Below w1.heap.size w1 w')) (Exc : Hid (∀ w1 g, Below w0.heap.size w0 w1 → g < w1.heap.size → TRow w1 g [⟨⟨xi, xn⟩, xo⟩, ⟨⟨ci, cn⟩, co⟩] → Calls Tryd.prog 19 #[.slice (some ⟨g, 0, none⟩) 2 2] w1 fun e w' => e = .returned (.agg #[.int .i64 (zi : Nat), .string (ba' zn), .int .i64 (zo : Nat)]) ∧ Below w1.heap.size w1 w')) (Ebc : Hid (∀ w1 g, Below w0.heap.size w0 w1 → g < w1.heap.size → TRow w1 g [⟨⟨bi, bn⟩, bo⟩, ⟨⟨ci, cn⟩, co⟩] → Calls Tryd.prog 19 #[.slice (some ⟨g, 0, none⟩) 2 2] w1 fun e w' => e = .returned (.agg #[.int .i64 (vi : Nat), .string (ba' vn), .int .i64 (vo : Nat)]) ∧ Below w1.heap.size w1 w')) (Eav : Hid (∀ w1 g, Below w0.heap.size w0 w1 → g < w1.heap.size → TRow w1 g [⟨⟨ai, an⟩, ao⟩, ⟨⟨vi, vn⟩, vo⟩] → Calls Tryd.prog 19 #[.slice (some ⟨g, 0, none⟩) 2 2] w1 fun e w' => e = .returned (.agg #[.int .i64 (zi : Nat), .string (ba' zn), .int .i64 (zo : Nat)]) ∧ Below w1.heap.size w1 w')) (Jyc : Hid (∀ w1 g, Below w0.heap.size w0 w1 → g < w1.heap.size → TRow w1 g [⟨⟨yi, yn⟩, yo⟩, ⟨⟨ci, cn⟩, co⟩] → Calls Tryd.prog 20 #[.slice (some ⟨g, 0, none⟩) 2 2] w1 fun e w' => e = .returned (.agg #[.int .i64 (ti : Nat), .string (ba' tn), .int .i64 (to : Nat)]) ∧ Below w1.heap.size w1 w')) (Jbc : Hid (∀ w1 g, Below w0.heap.size w0 w1 → g < w1.heap.size → TRow w1 g [⟨⟨bi, bn⟩, bo⟩, ⟨⟨ci, cn⟩, co⟩] → Calls Tryd.prog 20 #[.slice (some ⟨g, 0, none⟩) 2 2] w1 fun e w' => e = .returned (.agg #[.int .i64 (ui : Nat), .string (ba' un), .int .i64 (uo : Nat)]) ∧ Below w1.heap.size w1 w')) (Jau : Hid (∀ w1 g, Below w0.heap.size w0 w1 → g < w1.heap.size → TRow w1 g [⟨⟨ai, an⟩, ao⟩, ⟨⟨ui, un⟩, uo⟩] → Calls Tryd.prog 20 #[.slice (some ⟨g, 0, none⟩) 2 2] w1 fun e w' => e = .returned (.agg #[.int .i64 (ti : Nat), .string (ba' tn), .int .i64 (to : Nat)]) ∧ Below w1.heap.size w1 w')) (Hti : Hid (∀ w1, Below w0.heap.size w0 w1 → Calls Tryd.prog 24 #[.agg #[.int .i64 3, .string ⟨#[]⟩, .int .i64 0], .agg #[.int .i64 (ai : Nat), .string (ba' an), .int .i64 (ao : Nat)]] w1 fun e w' => e = .returned (.agg #[.int .i64 (ai : Nat), .string (ba' an), .int .i64 (ao : Nat)]) ∧ Below w1.heap.size w1 w')) (Hs1 : Hid (∀ w1, Below w0.heap.size w0 w1 → Calls Tryd.prog 22 #[.agg #[.int .i64 (ai : Nat), .string (ba' an), .int .i64 (ao : Nat)], .agg #[.int .i64 (ai : Nat), .string (ba' an), .int .i64 (ao : Nat)]] w1 fun e w' => e = .returned (.bool true) ∧ Below w1.heap.size w1 w')) (Hs2 : Hid (∀ w1, Below w0.heap.size w0 w1 → Calls Tryd.prog 22 #[.agg #[.int .i64 (ai : Nat), .string (ba' an), .int .i64 (ao : Nat)], .agg #[.int .i64 (ai : Nat), .string (ba' an), .int .i64 (ao : Nat)]] w1 fun e w' => e = .returned (.bool true) ∧ Below w1.heap.size w1 w'))
    (hQ : ∀ (A : Act) (w : World), A.defers = a0.defers → A.tmps.size = 118 → A.tmps.getD 6 undef = .bool true → Below w0.heap.size w0 w → Q .normal A w) :
    Code.wp Tryd.prog ((Tryd.f6.body.bind (regionOf 5)).getD .skip) Q a0 W := by
  conv => arg 2; whnf
  (try simp only [List.append_eq, List.cons_append, List.nil_append])
  refine wp_region_plan (by kernel_rfl) (by kernel_rfl) (by kernel_rfl) (by rw [hsz]; kernel_rfl) (fun w => Below w0.heap.size w0 w ∧ Below W.heap.size W w) (fun w w' => Below w.heap.size w w') (fun i w v => ((EvSp ga gb gc g1 gs bi bo bn ci co cn xi xo xn yi yo yn zi zo zn vi vo vn ui uo un ti to tn ai ao an).getD i .any).holds w v) ⟨bdr hb0, bdr (Below.refl _ _)⟩ (fun w w' j v hb h => Sp.mono _ hb h) ?_ ?_ ?_
  · intro i w v hn h
    have hge := gpAll_ge (by kernel_rfl) hn
    have e : (EvSp ga gb gc g1 gs bi bo bn ci co cn xi xo xn yi yo yn zi zo zn vi vo vn ui uo un ti to tn ai ao an).getD i .any = .any := by rw [List.getD_eq_getElem?_getD, List.getElem?_eq_none (by exact hge)]; rfl
    rw [e]
    trivial
  · intro i o ho a w hI hk hd
    have hi : i < 87 := (Array.getElem?_eq_some_iff.1 ho).1
    have h3 : a.tmps.getD 3 undef = .pointer (some ⟨ga, 0, none⟩) := (hk.2.2 3 (gpFree_ne (by kernel_rfl))).trans f3
    have h4 : a.tmps.getD 4 undef = .pointer (some ⟨gb, 0, none⟩) := (hk.2.2 4 (gpFree_ne (by kernel_rfl))).trans f4
    have h5 : a.tmps.getD 5 undef = .pointer (some ⟨gc, 0, none⟩) := (hk.2.2 5 (gpFree_ne (by kernel_rfl))).trans f5
    have h7 : a.tmps.getD 7 undef = .pointer (some ⟨g1, 0, none⟩) := (hk.2.2 7 (gpFree_ne (by kernel_rfl))).trans f7
    have h8 : a.tmps.getD 8 undef = .pointer (some ⟨gs, 0, none⟩) := (hk.2.2 8 (gpFree_ne (by kernel_rfl))).trans f8
    have c0 : w.cell? ⟨ga, 0, none⟩ = some (.int .i64 (ai : Nat)) := cell_call C0 hI.2
    have c1 : w.cell? ⟨ga, 1, none⟩ = some (.string (ba' an)) := cell_call C1 hI.2
    have c2 : w.cell? ⟨ga, 2, none⟩ = some (.int .i64 (ao : Nat)) := cell_call C2 hI.2
    have c3 : w.cell? ⟨gb, 0, none⟩ = some (.int .i64 (bi : Nat)) := cell_call C3 hI.2
    have c4 : w.cell? ⟨gb, 1, none⟩ = some (.string (ba' bn)) := cell_call C4 hI.2
    have c5 : w.cell? ⟨gb, 2, none⟩ = some (.int .i64 (bo : Nat)) := cell_call C5 hI.2
    have c6 : w.cell? ⟨gc, 0, none⟩ = some (.int .i64 (ci : Nat)) := cell_call C6 hI.2
    have c7 : w.cell? ⟨gc, 1, none⟩ = some (.string (ba' cn)) := cell_call C7 hI.2
    have c8 : w.cell? ⟨gc, 2, none⟩ = some (.int .i64 (co : Nat)) := cell_call C8 hI.2
    have c9 : w.cell? ⟨g1, 0, none⟩ = some (.int .i64 3) := cell_call C9 hI.2
    have c10 : w.cell? ⟨g1, 1, none⟩ = some (.string ⟨#[]⟩) := cell_call C10 hI.2
    have c11 : w.cell? ⟨g1, 2, none⟩ = some (.int .i64 0) := cell_call C11 hI.2
    have c12 : w.cell? ⟨gs, 0, none⟩ = some (.int .i64 (ai : Nat)) := cell_call C12 hI.2
    have c13 : w.cell? ⟨gs, 1, none⟩ = some (.string (ba' an)) := cell_call C13 hI.2
    have c14 : w.cell? ⟨gs, 2, none⟩ = some (.int .i64 (ao : Nat)) := cell_call C14 hI.2
    rcases (by omega : i = 0 ∨ i = 1 ∨ i = 2 ∨ i = 3 ∨ i = 4 ∨ i = 5 ∨ i = 6 ∨ i = 7 ∨ i = 8 ∨ i = 9 ∨ i = 10 ∨ i = 11 ∨ i = 12 ∨ i = 13 ∨ i = 14 ∨ i = 15 ∨ i = 16 ∨ i = 17 ∨ i = 18 ∨ i = 19 ∨ i = 20 ∨ i = 21 ∨ i = 22 ∨ i = 23 ∨ i = 24 ∨ i = 25 ∨ i = 26 ∨ i = 27 ∨ i = 28 ∨ i = 29 ∨ i = 30 ∨ i = 31 ∨ i = 32 ∨ i = 33 ∨ i = 34 ∨ i = 35 ∨ i = 36 ∨ i = 37 ∨ i = 38 ∨ i = 39 ∨ i = 40 ∨ i = 41 ∨ i = 42 ∨ i = 43 ∨ i = 44 ∨ i = 45 ∨ i = 46 ∨ i = 47 ∨ i = 48 ∨ i = 49 ∨ i = 50 ∨ i = 51 ∨ i = 52 ∨ i = 53 ∨ i = 54 ∨ i = 55 ∨ i = 56 ∨ i = 57 ∨ i = 58 ∨ i = 59 ∨ i = 60 ∨ i = 61 ∨ i = 62 ∨ i = 63 ∨ i = 64 ∨ i = 65 ∨ i = 66 ∨ i = 67 ∨ i = 68 ∨ i = 69 ∨ i = 70 ∨ i = 71 ∨ i = 72 ∨ i = 73 ∨ i = 74 ∨ i = 75 ∨ i = 76 ∨ i = 77 ∨ i = 78 ∨ i = 79 ∨ i = 80 ∨ i = 81 ∨ i = 82 ∨ i = 83 ∨ i = 84 ∨ i = 85 ∨ i = 86) with rfl | rfl | rfl | rfl | rfl | rfl | rfl | rfl | rfl | rfl | rfl | rfl | rfl | rfl | rfl | rfl | rfl | rfl | rfl | rfl | rfl | rfl | rfl | rfl | rfl | rfl | rfl | rfl | rfl | rfl | rfl | rfl | rfl | rfl | rfl | rfl | rfl | rfl | rfl | rfl | rfl | rfl | rfl | rfl | rfl | rfl | rfl | rfl | rfl | rfl | rfl | rfl | rfl | rfl | rfl | rfl | rfl | rfl | rfl | rfl | rfl | rfl | rfl | rfl | rfl | rfl | rfl | rfl | rfl | rfl | rfl | rfl | rfl | rfl | rfl | rfl | rfl | rfl | rfl | rfl | rfl | rfl | rfl | rfl | rfl | rfl | rfl
    · simp only [List.getElem?_toArray, List.getElem?_cons_zero, Option.some.injEq] at ho
      subst ho
      rw [if_pos (gp_none rfl)]
      intro K hK
      go_simp
      exact hK _ _ (Below.refl _ _) hI rfl
    · simp only [List.getElem?_toArray, List.getElem?_cons_zero, List.getElem?_cons_succ, Option.some.injEq] at ho
      subst ho
      rw [if_pos (gp_none rfl)]
      intro K hK
      go_simp
      exact hK _ _ (Below.refl _ _) hI rfl
    · simp only [List.getElem?_toArray, List.getElem?_cons_zero, List.getElem?_cons_succ, Option.some.injEq] at ho
      subst ho
      have h32 : a.tmps.getD 32 undef = .agg #[.int .i64 (ai : Nat), .string (ba' an), .int .i64 (ao : Nat)] := hd ⟨0, .data⟩ (by simp) rfl
      have k32 := tmp' h32
      have h33 : a.tmps.getD 33 undef = .agg #[.int .i64 (bi : Nat), .string (ba' bn), .int .i64 (bo : Nat)] := hd ⟨1, .data⟩ (by simp) rfl
      have k33 := tmp' h33
      rw [if_pos (gp_none rfl)]
      intro K hK
      go_simp
      exact hK _ _ (ba (Below.refl _ _)) ⟨ba hI.1, ba hI.2⟩ ⟨_, rfl, by simp, row2_new _ _ _⟩
    · simp only [List.getElem?_toArray, List.getElem?_cons_zero, List.getElem?_cons_succ, Option.some.injEq] at ho
      subst ho
      obtain ⟨sg, hsq, hsg, hrow⟩ : SL w [⟨⟨ai, an⟩, ao⟩, ⟨⟨bi, bn⟩, bo⟩] 2 (a.tmps.getD 34 undef) := hd ⟨2, .data⟩ (by simp) rfl
      rw [if_pos (gp_none rfl)]
      intro K hK
      go_simp
      go_at_call 19
      refine (Eab.out _ _ hI.1 hsg hrow).mono ?_
      rintro e w' ⟨rfl, hb⟩
      exact hK _ _ hb ⟨bt hI.1 hb, bt hI.2 hb⟩ rfl
    · simp only [List.getElem?_toArray, List.getElem?_cons_zero, List.getElem?_cons_succ, Option.some.injEq] at ho
      subst ho
      rw [if_pos (gp_none rfl)]
      intro K hK
      go_simp
      exact hK _ _ (Below.refl _ _) hI rfl
    · simp only [List.getElem?_toArray, List.getElem?_cons_zero, List.getElem?_cons_succ, Option.some.injEq] at ho
      subst ho
      rw [if_pos (gp_none rfl)]
      intro K hK
      go_simp
      exact hK _ _ (Below.refl _ _) hI rfl
    · simp only [List.getElem?_toArray, List.getElem?_cons_zero, List.getElem?_cons_succ, Option.some.injEq] at ho
      subst ho
      have h36 : a.tmps.getD 36 undef = .agg #[.int .i64 (bi : Nat), .string (ba' bn), .int .i64 (bo : Nat)] := hd ⟨4, .data⟩ (by simp) rfl
      have k36 := tmp' h36
      have h37 : a.tmps.getD 37 undef = .agg #[.int .i64 (ai : Nat), .string (ba' an), .int .i64 (ao : Nat)] := hd ⟨5, .data⟩ (by simp) rfl
      have k37 := tmp' h37
      rw [if_pos (gp_none rfl)]
      intro K hK
      go_simp
      exact hK _ _ (ba (Below.refl _ _)) ⟨ba hI.1, ba hI.2⟩ ⟨_, rfl, by simp, row2_new _ _ _⟩
    · simp only [List.getElem?_toArray, List.getElem?_cons_zero, List.getElem?_cons_succ, Option.some.injEq] at ho
      subst ho
      obtain ⟨sg, hsq, hsg, hrow⟩ : SL w [⟨⟨bi, bn⟩, bo⟩, ⟨⟨ai, an⟩, ao⟩] 2 (a.tmps.getD 38 undef) := hd ⟨6, .data⟩ (by simp) rfl
      rw [if_pos (gp_none rfl)]
      intro K hK
      go_simp
      go_at_call 19
      refine (Eba.out _ _ hI.1 hsg hrow).mono ?_
      rintro e w' ⟨rfl, hb⟩
      exact hK _ _ hb ⟨bt hI.1 hb, bt hI.2 hb⟩ rfl
    · simp only [List.getElem?_toArray, List.getElem?_cons_zero, List.getElem?_cons_succ, Option.some.injEq] at ho
      subst ho
      have h35 : a.tmps.getD 35 undef = .agg #[.int .i64 (xi : Nat), .string (ba' xn), .int .i64 (xo : Nat)] := hd ⟨3, .data⟩ (by simp) rfl
      have h39 : a.tmps.getD 39 undef = .agg #[.int .i64 (xi : Nat), .string (ba' xn), .int .i64 (xo : Nat)] := hd ⟨7, .data⟩ (by simp) rfl
      rw [if_pos (gp_none rfl)]
      intro K hK
      go_simp
      exact hK _ _ (Below.refl _ _) hI rfl
    · simp only [List.getElem?_toArray, List.getElem?_cons_zero, List.getElem?_cons_succ, Option.some.injEq] at ho
      subst ho
      have h40 : a.tmps.getD 40 undef = .bool true := hd ⟨8, .data⟩ (by simp) rfl
      rw [if_pos (gp_none rfl)]
      intro K hK
      go_simp
      exact hK _ _ (Below.refl _ _) hI rfl
    · simp only [List.getElem?_toArray, List.getElem?_cons_zero, List.getElem?_cons_succ, Option.some.injEq] at ho
      subst ho
      have h41 : a.tmps.getD 41 undef = .bool true := hd ⟨9, .guard⟩ (by simp) rfl
      have hgv : gpVal _ a 9 = .bool true := hd ⟨9, .guard⟩ (by simp) rfl
      rw [if_pos (by rw [gp_some rfl hgv]; decide)]
      clear hgv
      intro K hK
      go_simp
      exact hK _ _ (Below.refl _ _) hI rfl
    · simp only [List.getElem?_toArray, List.getElem?_cons_zero, List.getElem?_cons_succ, Option.some.injEq] at ho
      subst ho
      have h41 : a.tmps.getD 41 undef = .bool true := hd ⟨9, .guard⟩ (by simp) rfl
      have hgv : gpVal _ a 9 = .bool true := hd ⟨9, .guard⟩ (by simp) rfl
      rw [if_pos (by rw [gp_some rfl hgv]; decide)]
      clear hgv
      intro K hK
      go_simp
      exact hK _ _ (Below.refl _ _) hI rfl
    · simp only [List.getElem?_toArray, List.getElem?_cons_zero, List.getElem?_cons_succ, Option.some.injEq] at ho
      subst ho
      have h42 : a.tmps.getD 42 undef = .agg #[.int .i64 (ai : Nat), .string (ba' an), .int .i64 (ao : Nat)] := hd ⟨10, .data⟩ (by simp) rfl
      have k42 := tmp' h42
      have h43 : a.tmps.getD 43 undef = .agg #[.int .i64 (bi : Nat), .string (ba' bn), .int .i64 (bo : Nat)] := hd ⟨11, .data⟩ (by simp) rfl
      have k43 := tmp' h43
      have h41 : a.tmps.getD 41 undef = .bool true := hd ⟨9, .guard⟩ (by simp) rfl
      have k41 := tmp' h41
      have hgv : gpVal _ a 9 = .bool true := hd ⟨9, .guard⟩ (by simp) rfl
      rw [if_pos (by rw [gp_some rfl hgv]; decide)]
      clear hgv
      intro K hK
      go_simp
      exact hK _ _ (ba (Below.refl _ _)) ⟨ba hI.1, ba hI.2⟩ ⟨_, rfl, by simp, row2_new _ _ _⟩
    · simp only [List.getElem?_toArray, List.getElem?_cons_zero, List.getElem?_cons_succ, Option.some.injEq] at ho
      subst ho
      obtain ⟨sg, hsq, hsg, hrow⟩ : SL w [⟨⟨ai, an⟩, ao⟩, ⟨⟨bi, bn⟩, bo⟩] 2 (a.tmps.getD 44 undef) := hd ⟨12, .data⟩ (by simp) rfl
      have h41 : a.tmps.getD 41 undef = .bool true := hd ⟨9, .guard⟩ (by simp) rfl
      have hgv : gpVal _ a 9 = .bool true := hd ⟨9, .guard⟩ (by simp) rfl
      rw [if_pos (by rw [gp_some rfl hgv]; decide)]
      clear hgv
      intro K hK
      go_simp
      go_at_call 20
      refine (Jab.out _ _ hI.1 hsg hrow).mono ?_
      rintro e w' ⟨rfl, hb⟩
      exact hK _ _ hb ⟨bt hI.1 hb, bt hI.2 hb⟩ rfl
    · simp only [List.getElem?_toArray, List.getElem?_cons_zero, List.getElem?_cons_succ, Option.some.injEq] at ho
      subst ho
      have h41 : a.tmps.getD 41 undef = .bool true := hd ⟨9, .guard⟩ (by simp) rfl
      have hgv : gpVal _ a 9 = .bool true := hd ⟨9, .guard⟩ (by simp) rfl
      rw [if_pos (by rw [gp_some rfl hgv]; decide)]
      clear hgv
      intro K hK
      go_simp
      exact hK _ _ (Below.refl _ _) hI rfl
    · simp only [List.getElem?_toArray, List.getElem?_cons_zero, List.getElem?_cons_succ, Option.some.injEq] at ho
      subst ho
      have h41 : a.tmps.getD 41 undef = .bool true := hd ⟨9, .guard⟩ (by simp) rfl
      have hgv : gpVal _ a 9 = .bool true := hd ⟨9, .guard⟩ (by simp) rfl
      rw [if_pos (by rw [gp_some rfl hgv]; decide)]
      clear hgv
      intro K hK
      go_simp
      exact hK _ _ (Below.refl _ _) hI rfl
    · simp only [List.getElem?_toArray, List.getElem?_cons_zero, List.getElem?_cons_succ, Option.some.injEq] at ho
      subst ho
      have h46 : a.tmps.getD 46 undef = .agg #[.int .i64 (bi : Nat), .string (ba' bn), .int .i64 (bo : Nat)] := hd ⟨14, .data⟩ (by simp) rfl
      have k46 := tmp' h46
      have h47 : a.tmps.getD 47 undef = .agg #[.int .i64 (ai : Nat), .string (ba' an), .int .i64 (ao : Nat)] := hd ⟨15, .data⟩ (by simp) rfl
      have k47 := tmp' h47
      have h41 : a.tmps.getD 41 undef = .bool true := hd ⟨9, .guard⟩ (by simp) rfl
      have k41 := tmp' h41
      have hgv : gpVal _ a 9 = .bool true := hd ⟨9, .guard⟩ (by simp) rfl
      rw [if_pos (by rw [gp_some rfl hgv]; decide)]
      clear hgv
      intro K hK
      go_simp
      exact hK _ _ (ba (Below.refl _ _)) ⟨ba hI.1, ba hI.2⟩ ⟨_, rfl, by simp, row2_new _ _ _⟩
    · simp only [List.getElem?_toArray, List.getElem?_cons_zero, List.getElem?_cons_succ, Option.some.injEq] at ho
      subst ho
      obtain ⟨sg, hsq, hsg, hrow⟩ : SL w [⟨⟨bi, bn⟩, bo⟩, ⟨⟨ai, an⟩, ao⟩] 2 (a.tmps.getD 48 undef) := hd ⟨16, .data⟩ (by simp) rfl
      have h41 : a.tmps.getD 41 undef = .bool true := hd ⟨9, .guard⟩ (by simp) rfl
      have hgv : gpVal _ a 9 = .bool true := hd ⟨9, .guard⟩ (by simp) rfl
      rw [if_pos (by rw [gp_some rfl hgv]; decide)]
      clear hgv
      intro K hK
      go_simp
      go_at_call 20
      refine (Jba.out _ _ hI.1 hsg hrow).mono ?_
      rintro e w' ⟨rfl, hb⟩
      exact hK _ _ hb ⟨bt hI.1 hb, bt hI.2 hb⟩ rfl
    · simp only [List.getElem?_toArray, List.getElem?_cons_zero, List.getElem?_cons_succ, Option.some.injEq] at ho
      subst ho
      have h45 : a.tmps.getD 45 undef = .agg #[.int .i64 (yi : Nat), .string (ba' yn), .int .i64 (yo : Nat)] := hd ⟨13, .data⟩ (by simp) rfl
      have h49 : a.tmps.getD 49 undef = .agg #[.int .i64 (yi : Nat), .string (ba' yn), .int .i64 (yo : Nat)] := hd ⟨17, .data⟩ (by simp) rfl
      have h41 : a.tmps.getD 41 undef = .bool true := hd ⟨9, .guard⟩ (by simp) rfl
      have hgv : gpVal _ a 9 = .bool true := hd ⟨9, .guard⟩ (by simp) rfl
      rw [if_pos (by rw [gp_some rfl hgv]; decide)]
      clear hgv
      intro K hK
      go_simp
      exact hK _ _ (Below.refl _ _) hI rfl
    · simp only [List.getElem?_toArray, List.getElem?_cons_zero, List.getElem?_cons_succ, Option.some.injEq] at ho
      subst ho
      have h41 : a.tmps.getD 41 undef = .bool true := hd ⟨9, .data⟩ (by simp) rfl
      have h50 : a.tmps.getD 50 undef = .bool true := hd ⟨18, .data⟩ (by simp) rfl
      rw [if_pos (gp_none rfl)]
      intro K hK
      go_simp
      exact hK _ _ (Below.refl _ _) hI rfl
    · simp only [List.getElem?_toArray, List.getElem?_cons_zero, List.getElem?_cons_succ, Option.some.injEq] at ho
      subst ho
      have h51 : a.tmps.getD 51 undef = .bool true := hd ⟨19, .data⟩ (by simp) rfl
      rw [if_pos (gp_none rfl)]
      intro K hK
      go_simp
      exact hK _ _ (Below.refl _ _) hI rfl
    · simp only [List.getElem?_toArray, List.getElem?_cons_zero, List.getElem?_cons_succ, Option.some.injEq] at ho
      subst ho
      have h52 : a.tmps.getD 52 undef = .bool true := hd ⟨20, .guard⟩ (by simp) rfl
      have hgv : gpVal _ a 20 = .bool true := hd ⟨20, .guard⟩ (by simp) rfl
      rw [if_pos (by rw [gp_some rfl hgv]; decide)]
      clear hgv
      intro K hK
      go_simp
      exact hK _ _ (Below.refl _ _) hI rfl
    · simp only [List.getElem?_toArray, List.getElem?_cons_zero, List.getElem?_cons_succ, Option.some.injEq] at ho
      subst ho
      have h52 : a.tmps.getD 52 undef = .bool true := hd ⟨20, .guard⟩ (by simp) rfl
      have hgv : gpVal _ a 20 = .bool true := hd ⟨20, .guard⟩ (by simp) rfl
      rw [if_pos (by rw [gp_some rfl hgv]; decide)]
      clear hgv
      intro K hK
      go_simp
      exact hK _ _ (Below.refl _ _) hI rfl
    · simp only [List.getElem?_toArray, List.getElem?_cons_zero, List.getElem?_cons_succ, Option.some.injEq] at ho
      subst ho
      have h53 : a.tmps.getD 53 undef = .agg #[.int .i64 (ai : Nat), .string (ba' an), .int .i64 (ao : Nat)] := hd ⟨21, .data⟩ (by simp) rfl
      have k53 := tmp' h53
      have h54 : a.tmps.getD 54 undef = .agg #[.int .i64 (bi : Nat), .string (ba' bn), .int .i64 (bo : Nat)] := hd ⟨22, .data⟩ (by simp) rfl
      have k54 := tmp' h54
      have h52 : a.tmps.getD 52 undef = .bool true := hd ⟨20, .guard⟩ (by simp) rfl
      have k52 := tmp' h52
      have hgv : gpVal _ a 20 = .bool true := hd ⟨20, .guard⟩ (by simp) rfl
      rw [if_pos (by rw [gp_some rfl hgv]; decide)]
      clear hgv
      intro K hK
      go_simp
      exact hK _ _ (ba (Below.refl _ _)) ⟨ba hI.1, ba hI.2⟩ ⟨_, rfl, by simp, row2_new _ _ _⟩
    · simp only [List.getElem?_toArray, List.getElem?_cons_zero, List.getElem?_cons_succ, Option.some.injEq] at ho
      subst ho
      obtain ⟨sg, hsq, hsg, hrow⟩ : SL w [⟨⟨ai, an⟩, ao⟩, ⟨⟨bi, bn⟩, bo⟩] 2 (a.tmps.getD 55 undef) := hd ⟨23, .data⟩ (by simp) rfl
      have h52 : a.tmps.getD 52 undef = .bool true := hd ⟨20, .guard⟩ (by simp) rfl
      have hgv : gpVal _ a 20 = .bool true := hd ⟨20, .guard⟩ (by simp) rfl
      rw [if_pos (by rw [gp_some rfl hgv]; decide)]
      clear hgv
      intro K hK
      go_simp
      go_at_call 19
      refine (Eab.out _ _ hI.1 hsg hrow).mono ?_
      rintro e w' ⟨rfl, hb⟩
      exact hK _ _ hb ⟨bt hI.1 hb, bt hI.2 hb⟩ rfl
    · simp only [List.getElem?_toArray, List.getElem?_cons_zero, List.getElem?_cons_succ, Option.some.injEq] at ho
      subst ho
      have h52 : a.tmps.getD 52 undef = .bool true := hd ⟨20, .guard⟩ (by simp) rfl
      have hgv : gpVal _ a 20 = .bool true := hd ⟨20, .guard⟩ (by simp) rfl
      rw [if_pos (by rw [gp_some rfl hgv]; decide)]
      clear hgv
      intro K hK
      go_simp
      exact hK _ _ (Below.refl _ _) hI rfl
    · simp only [List.getElem?_toArray, List.getElem?_cons_zero, List.getElem?_cons_succ, Option.some.injEq] at ho
      subst ho
      have h56 : a.tmps.getD 56 undef = .agg #[.int .i64 (xi : Nat), .string (ba' xn), .int .i64 (xo : Nat)] := hd ⟨24, .data⟩ (by simp) rfl
      have k56 := tmp' h56
      have h57 : a.tmps.getD 57 undef = .agg #[.int .i64 (ci : Nat), .string (ba' cn), .int .i64 (co : Nat)] := hd ⟨25, .data⟩ (by simp) rfl
      have k57 := tmp' h57
      have h52 : a.tmps.getD 52 undef = .bool true := hd ⟨20, .guard⟩ (by simp) rfl
      have k52 := tmp' h52
      have hgv : gpVal _ a 20 = .bool true := hd ⟨20, .guard⟩ (by simp) rfl
      rw [if_pos (by rw [gp_some rfl hgv]; decide)]
      clear hgv
      intro K hK
      go_simp
      exact hK _ _ (ba (Below.refl _ _)) ⟨ba hI.1, ba hI.2⟩ ⟨_, rfl, by simp, row2_new _ _ _⟩
    · simp only [List.getElem?_toArray, List.getElem?_cons_zero, List.getElem?_cons_succ, Option.some.injEq] at ho
      subst ho
      obtain ⟨sg, hsq, hsg, hrow⟩ : SL w [⟨⟨xi, xn⟩, xo⟩, ⟨⟨ci, cn⟩, co⟩] 2 (a.tmps.getD 58 undef) := hd ⟨26, .data⟩ (by simp) rfl
      have h52 : a.tmps.getD 52 undef = .bool true := hd ⟨20, .guard⟩ (by simp) rfl
      have hgv : gpVal _ a 20 = .bool true := hd ⟨20, .guard⟩ (by simp) rfl
      rw [if_pos (by rw [gp_some rfl hgv]; decide)]
      clear hgv
      intro K hK
      go_simp
      go_at_call 19
      refine (Exc.out _ _ hI.1 hsg hrow).mono ?_
      rintro e w' ⟨rfl, hb⟩
      exact hK _ _ hb ⟨bt hI.1 hb, bt hI.2 hb⟩ rfl
    · simp only [List.getElem?_toArray, List.getElem?_cons_zero, List.getElem?_cons_succ, Option.some.injEq] at ho
      subst ho
      have h52 : a.tmps.getD 52 undef = .bool true := hd ⟨20, .guard⟩ (by simp) rfl
      have hgv : gpVal _ a 20 = .bool true := hd ⟨20, .guard⟩ (by simp) rfl
      rw [if_pos (by rw [gp_some rfl hgv]; decide)]
      clear hgv
      intro K hK
      go_simp
      exact hK _ _ (Below.refl _ _) hI rfl
    · simp only [List.getElem?_toArray, List.getElem?_cons_zero, List.getElem?_cons_succ, Option.some.injEq] at ho
      subst ho
      have h52 : a.tmps.getD 52 undef = .bool true := hd ⟨20, .guard⟩ (by simp) rfl
      have hgv : gpVal _ a 20 = .bool true := hd ⟨20, .guard⟩ (by simp) rfl
      rw [if_pos (by rw [gp_some rfl hgv]; decide)]
      clear hgv
      intro K hK
      go_simp
      exact hK _ _ (Below.refl _ _) hI rfl
    · simp only [List.getElem?_toArray, List.getElem?_cons_zero, List.getElem?_cons_succ, Option.some.injEq] at ho
      subst ho
      have h52 : a.tmps.getD 52 undef = .bool true := hd ⟨20, .guard⟩ (by simp) rfl
      have hgv : gpVal _ a 20 = .bool true := hd ⟨20, .guard⟩ (by simp) rfl
      rw [if_pos (by rw [gp_some rfl hgv]; decide)]
      clear hgv
      intro K hK
      go_simp
      exact hK _ _ (Below.refl _ _) hI rfl
    · simp only [List.getElem?_toArray, List.getElem?_cons_zero, List.getElem?_cons_succ, Option.some.injEq] at ho
      subst ho
      have h61 : a.tmps.getD 61 undef = .agg #[.int .i64 (bi : Nat), .string (ba' bn), .int .i64 (bo : Nat)] := hd ⟨29, .data⟩ (by simp) rfl
      have k61 := tmp' h61
      have h62 : a.tmps.getD 62 undef = .agg #[.int .i64 (ci : Nat), .string (ba' cn), .int .i64 (co : Nat)] := hd ⟨30, .data⟩ (by simp) rfl
      have k62 := tmp' h62
      have h52 : a.tmps.getD 52 undef = .bool true := hd ⟨20, .guard⟩ (by simp) rfl
      have k52 := tmp' h52
      have hgv : gpVal _ a 20 = .bool true := hd ⟨20, .guard⟩ (by simp) rfl
      rw [if_pos (by rw [gp_some rfl hgv]; decide)]
      clear hgv
      intro K hK
      go_simp
      exact hK _ _ (ba (Below.refl _ _)) ⟨ba hI.1, ba hI.2⟩ ⟨_, rfl, by simp, row2_new _ _ _⟩
    · simp only [List.getElem?_toArray, List.getElem?_cons_zero, List.getElem?_cons_succ, Option.some.injEq] at ho
      subst ho
      obtain ⟨sg, hsq, hsg, hrow⟩ : SL w [⟨⟨bi, bn⟩, bo⟩, ⟨⟨ci, cn⟩, co⟩] 2 (a.tmps.getD 63 undef) := hd ⟨31, .data⟩ (by simp) rfl
      have h52 : a.tmps.getD 52 undef = .bool true := hd ⟨20, .guard⟩ (by simp) rfl
      have hgv : gpVal _ a 20 = .bool true := hd ⟨20, .guard⟩ (by simp) rfl
      rw [if_pos (by rw [gp_some rfl hgv]; decide)]
      clear hgv
      intro K hK
      go_simp
      go_at_call 19
      refine (Ebc.out _ _ hI.1 hsg hrow).mono ?_
      rintro e w' ⟨rfl, hb⟩
      exact hK _ _ hb ⟨bt hI.1 hb, bt hI.2 hb⟩ rfl
    · simp only [List.getElem?_toArray, List.getElem?_cons_zero, List.getElem?_cons_succ, Option.some.injEq] at ho
      subst ho
      have h60 : a.tmps.getD 60 undef = .agg #[.int .i64 (ai : Nat), .string (ba' an), .int .i64 (ao : Nat)] := hd ⟨28, .data⟩ (by simp) rfl
      have k60 := tmp' h60
      have h64 : a.tmps.getD 64 undef = .agg #[.int .i64 (vi : Nat), .string (ba' vn), .int .i64 (vo : Nat)] := hd ⟨32, .data⟩ (by simp) rfl
      have k64 := tmp' h64
      have h52 : a.tmps.getD 52 undef = .bool true := hd ⟨20, .guard⟩ (by simp) rfl
      have k52 := tmp' h52
      have hgv : gpVal _ a 20 = .bool true := hd ⟨20, .guard⟩ (by simp) rfl
      rw [if_pos (by rw [gp_some rfl hgv]; decide)]
      clear hgv
      intro K hK
      go_simp
      exact hK _ _ (ba (Below.refl _ _)) ⟨ba hI.1, ba hI.2⟩ ⟨_, rfl, by simp, row2_new _ _ _⟩
    · simp only [List.getElem?_toArray, List.getElem?_cons_zero, List.getElem?_cons_succ, Option.some.injEq] at ho
      subst ho
      obtain ⟨sg, hsq, hsg, hrow⟩ : SL w [⟨⟨ai, an⟩, ao⟩, ⟨⟨vi, vn⟩, vo⟩] 2 (a.tmps.getD 65 undef) := hd ⟨33, .data⟩ (by simp) rfl
      have h52 : a.tmps.getD 52 undef = .bool true := hd ⟨20, .guard⟩ (by simp) rfl
      have hgv : gpVal _ a 20 = .bool true := hd ⟨20, .guard⟩ (by simp) rfl
      rw [if_pos (by rw [gp_some rfl hgv]; decide)]
      clear hgv
      intro K hK
      go_simp
      go_at_call 19
      refine (Eav.out _ _ hI.1 hsg hrow).mono ?_
      rintro e w' ⟨rfl, hb⟩
      exact hK _ _ hb ⟨bt hI.1 hb, bt hI.2 hb⟩ rfl
    · simp only [List.getElem?_toArray, List.getElem?_cons_zero, List.getElem?_cons_succ, Option.some.injEq] at ho
      subst ho
      have h59 : a.tmps.getD 59 undef = .agg #[.int .i64 (zi : Nat), .string (ba' zn), .int .i64 (zo : Nat)] := hd ⟨27, .data⟩ (by simp) rfl
      have h66 : a.tmps.getD 66 undef = .agg #[.int .i64 (zi : Nat), .string (ba' zn), .int .i64 (zo : Nat)] := hd ⟨34, .data⟩ (by simp) rfl
      have h52 : a.tmps.getD 52 undef = .bool true := hd ⟨20, .guard⟩ (by simp) rfl
      have hgv : gpVal _ a 20 = .bool true := hd ⟨20, .guard⟩ (by simp) rfl
      rw [if_pos (by rw [gp_some rfl hgv]; decide)]
      clear hgv
      intro K hK
      go_simp
      exact hK _ _ (Below.refl _ _) hI rfl
    · simp only [List.getElem?_toArray, List.getElem?_cons_zero, List.getElem?_cons_succ, Option.some.injEq] at ho
      subst ho
      have h52 : a.tmps.getD 52 undef = .bool true := hd ⟨20, .data⟩ (by simp) rfl
      have h67 : a.tmps.getD 67 undef = .bool true := hd ⟨35, .data⟩ (by simp) rfl
      rw [if_pos (gp_none rfl)]
      intro K hK
      go_simp
      exact hK _ _ (Below.refl _ _) hI rfl
    · simp only [List.getElem?_toArray, List.getElem?_cons_zero, List.getElem?_cons_succ, Option.some.injEq] at ho
      subst ho
      have h68 : a.tmps.getD 68 undef = .bool true := hd ⟨36, .data⟩ (by simp) rfl
      rw [if_pos (gp_none rfl)]
      intro K hK
      go_simp
      exact hK _ _ (Below.refl _ _) hI rfl
    · simp only [List.getElem?_toArray, List.getElem?_cons_zero, List.getElem?_cons_succ, Option.some.injEq] at ho
      subst ho
      have h69 : a.tmps.getD 69 undef = .bool true := hd ⟨37, .guard⟩ (by simp) rfl
      have hgv : gpVal _ a 37 = .bool true := hd ⟨37, .guard⟩ (by simp) rfl
      rw [if_pos (by rw [gp_some rfl hgv]; decide)]
      clear hgv
      intro K hK
      go_simp
      exact hK _ _ (Below.refl _ _) hI rfl
    · simp only [List.getElem?_toArray, List.getElem?_cons_zero, List.getElem?_cons_succ, Option.some.injEq] at ho
      subst ho
      have h69 : a.tmps.getD 69 undef = .bool true := hd ⟨37, .guard⟩ (by simp) rfl
      have hgv : gpVal _ a 37 = .bool true := hd ⟨37, .guard⟩ (by simp) rfl
      rw [if_pos (by rw [gp_some rfl hgv]; decide)]
      clear hgv
      intro K hK
      go_simp
      exact hK _ _ (Below.refl _ _) hI rfl
    · simp only [List.getElem?_toArray, List.getElem?_cons_zero, List.getElem?_cons_succ, Option.some.injEq] at ho
      subst ho
      have h70 : a.tmps.getD 70 undef = .agg #[.int .i64 (ai : Nat), .string (ba' an), .int .i64 (ao : Nat)] := hd ⟨38, .data⟩ (by simp) rfl
      have k70 := tmp' h70
      have h71 : a.tmps.getD 71 undef = .agg #[.int .i64 (bi : Nat), .string (ba' bn), .int .i64 (bo : Nat)] := hd ⟨39, .data⟩ (by simp) rfl
      have k71 := tmp' h71
      have h69 : a.tmps.getD 69 undef = .bool true := hd ⟨37, .guard⟩ (by simp) rfl
      have k69 := tmp' h69
      have hgv : gpVal _ a 37 = .bool true := hd ⟨37, .guard⟩ (by simp) rfl
      rw [if_pos (by rw [gp_some rfl hgv]; decide)]
      clear hgv
      intro K hK
      go_simp
      exact hK _ _ (ba (Below.refl _ _)) ⟨ba hI.1, ba hI.2⟩ ⟨_, rfl, by simp, row2_new _ _ _⟩
    · simp only [List.getElem?_toArray, List.getElem?_cons_zero, List.getElem?_cons_succ, Option.some.injEq] at ho
      subst ho
      obtain ⟨sg, hsq, hsg, hrow⟩ : SL w [⟨⟨ai, an⟩, ao⟩, ⟨⟨bi, bn⟩, bo⟩] 2 (a.tmps.getD 72 undef) := hd ⟨40, .data⟩ (by simp) rfl
      have h69 : a.tmps.getD 69 undef = .bool true := hd ⟨37, .guard⟩ (by simp) rfl
      have hgv : gpVal _ a 37 = .bool true := hd ⟨37, .guard⟩ (by simp) rfl
      rw [if_pos (by rw [gp_some rfl hgv]; decide)]
      clear hgv
      intro K hK
      go_simp
      go_at_call 20
      refine (Jab.out _ _ hI.1 hsg hrow).mono ?_
      rintro e w' ⟨rfl, hb⟩
      exact hK _ _ hb ⟨bt hI.1 hb, bt hI.2 hb⟩ rfl
    · simp only [List.getElem?_toArray, List.getElem?_cons_zero, List.getElem?_cons_succ, Option.some.injEq] at ho
      subst ho
      have h69 : a.tmps.getD 69 undef = .bool true := hd ⟨37, .guard⟩ (by simp) rfl
      have hgv : gpVal _ a 37 = .bool true := hd ⟨37, .guard⟩ (by simp) rfl
      rw [if_pos (by rw [gp_some rfl hgv]; decide)]
      clear hgv
      intro K hK
      go_simp
      exact hK _ _ (Below.refl _ _) hI rfl
    · simp only [List.getElem?_toArray, List.getElem?_cons_zero, List.getElem?_cons_succ, Option.some.injEq] at ho
      subst ho
      have h73 : a.tmps.getD 73 undef = .agg #[.int .i64 (yi : Nat), .string (ba' yn), .int .i64 (yo : Nat)] := hd ⟨41, .data⟩ (by simp) rfl
      have k73 := tmp' h73
      have h74 : a.tmps.getD 74 undef = .agg #[.int .i64 (ci : Nat), .string (ba' cn), .int .i64 (co : Nat)] := hd ⟨42, .data⟩ (by simp) rfl
      have k74 := tmp' h74
      have h69 : a.tmps.getD 69 undef = .bool true := hd ⟨37, .guard⟩ (by simp) rfl
      have k69 := tmp' h69
      have hgv : gpVal _ a 37 = .bool true := hd ⟨37, .guard⟩ (by simp) rfl
      rw [if_pos (by rw [gp_some rfl hgv]; decide)]
      clear hgv
      intro K hK
      go_simp
      exact hK _ _ (ba (Below.refl _ _)) ⟨ba hI.1, ba hI.2⟩ ⟨_, rfl, by simp, row2_new _ _ _⟩
    · simp only [List.getElem?_toArray, List.getElem?_cons_zero, List.getElem?_cons_succ, Option.some.injEq] at ho
      subst ho
      obtain ⟨sg, hsq, hsg, hrow⟩ : SL w [⟨⟨yi, yn⟩, yo⟩, ⟨⟨ci, cn⟩, co⟩] 2 (a.tmps.getD 75 undef) := hd ⟨43, .data⟩ (by simp) rfl
      have h69 : a.tmps.getD 69 undef = .bool true := hd ⟨37, .guard⟩ (by simp) rfl
      have hgv : gpVal _ a 37 = .bool true := hd ⟨37, .guard⟩ (by simp) rfl
      rw [if_pos (by rw [gp_some rfl hgv]; decide)]
      clear hgv
      intro K hK
      go_simp
      go_at_call 20
      refine (Jyc.out _ _ hI.1 hsg hrow).mono ?_
      rintro e w' ⟨rfl, hb⟩
      exact hK _ _ hb ⟨bt hI.1 hb, bt hI.2 hb⟩ rfl
    · simp only [List.getElem?_toArray, List.getElem?_cons_zero, List.getElem?_cons_succ, Option.some.injEq] at ho
      subst ho
      have h69 : a.tmps.getD 69 undef = .bool true := hd ⟨37, .guard⟩ (by simp) rfl
      have hgv : gpVal _ a 37 = .bool true := hd ⟨37, .guard⟩ (by simp) rfl
      rw [if_pos (by rw [gp_some rfl hgv]; decide)]
      clear hgv
      intro K hK
      go_simp
      exact hK _ _ (Below.refl _ _) hI rfl
    · simp only [List.getElem?_toArray, List.getElem?_cons_zero, List.getElem?_cons_succ, Option.some.injEq] at ho
      subst ho
      have h69 : a.tmps.getD 69 undef = .bool true := hd ⟨37, .guard⟩ (by simp) rfl
      have hgv : gpVal _ a 37 = .bool true := hd ⟨37, .guard⟩ (by simp) rfl
      rw [if_pos (by rw [gp_some rfl hgv]; decide)]
      clear hgv
      intro K hK
      go_simp
      exact hK _ _ (Below.refl _ _) hI rfl
    · simp only [List.getElem?_toArray, List.getElem?_cons_zero, List.getElem?_cons_succ, Option.some.injEq] at ho
      subst ho
      have h69 : a.tmps.getD 69 undef = .bool true := hd ⟨37, .guard⟩ (by simp) rfl
      have hgv : gpVal _ a 37 = .bool true := hd ⟨37, .guard⟩ (by simp) rfl
      rw [if_pos (by rw [gp_some rfl hgv]; decide)]
      clear hgv
      intro K hK
      go_simp
      exact hK _ _ (Below.refl _ _) hI rfl
    · simp only [List.getElem?_toArray, List.getElem?_cons_zero, List.getElem?_cons_succ, Option.some.injEq] at ho
      subst ho
      have h78 : a.tmps.getD 78 undef = .agg #[.int .i64 (bi : Nat), .string (ba' bn), .int .i64 (bo : Nat)] := hd ⟨46, .data⟩ (by simp) rfl
      have k78 := tmp' h78
      have h79 : a.tmps.getD 79 undef = .agg #[.int .i64 (ci : Nat), .string (ba' cn), .int .i64 (co : Nat)] := hd ⟨47, .data⟩ (by simp) rfl
      have k79 := tmp' h79
      have h69 : a.tmps.getD 69 undef = .bool true := hd ⟨37, .guard⟩ (by simp) rfl
      have k69 := tmp' h69
      have hgv : gpVal _ a 37 = .bool true := hd ⟨37, .guard⟩ (by simp) rfl
      rw [if_pos (by rw [gp_some rfl hgv]; decide)]
      clear hgv
      intro K hK
      go_simp
      exact hK _ _ (ba (Below.refl _ _)) ⟨ba hI.1, ba hI.2⟩ ⟨_, rfl, by simp, row2_new _ _ _⟩
    · simp only [List.getElem?_toArray, List.getElem?_cons_zero, List.getElem?_cons_succ, Option.some.injEq] at ho
      subst ho
      obtain ⟨sg, hsq, hsg, hrow⟩ : SL w [⟨⟨bi, bn⟩, bo⟩, ⟨⟨ci, cn⟩, co⟩] 2 (a.tmps.getD 80 undef) := hd ⟨48, .data⟩ (by simp) rfl
      have h69 : a.tmps.getD 69 undef = .bool true := hd ⟨37, .guard⟩ (by simp) rfl
      have hgv : gpVal _ a 37 = .bool true := hd ⟨37, .guard⟩ (by simp) rfl
      rw [if_pos (by rw [gp_some rfl hgv]; decide)]
      clear hgv
      intro K hK
      go_simp
      go_at_call 20
      refine (Jbc.out _ _ hI.1 hsg hrow).mono ?_
      rintro e w' ⟨rfl, hb⟩
      exact hK _ _ hb ⟨bt hI.1 hb, bt hI.2 hb⟩ rfl
    · simp only [List.getElem?_toArray, List.getElem?_cons_zero, List.getElem?_cons_succ, Option.some.injEq] at ho
      subst ho
      have h77 : a.tmps.getD 77 undef = .agg #[.int .i64 (ai : Nat), .string (ba' an), .int .i64 (ao : Nat)] := hd ⟨45, .data⟩ (by simp) rfl
      have k77 := tmp' h77
      have h81 : a.tmps.getD 81 undef = .agg #[.int .i64 (ui : Nat), .string (ba' un), .int .i64 (uo : Nat)] := hd ⟨49, .data⟩ (by simp) rfl
      have k81 := tmp' h81
      have h69 : a.tmps.getD 69 undef = .bool true := hd ⟨37, .guard⟩ (by simp) rfl
      have k69 := tmp' h69
      have hgv : gpVal _ a 37 = .bool true := hd ⟨37, .guard⟩ (by simp) rfl
      rw [if_pos (by rw [gp_some rfl hgv]; decide)]
      clear hgv
      intro K hK
      go_simp
      exact hK _ _ (ba (Below.refl _ _)) ⟨ba hI.1, ba hI.2⟩ ⟨_, rfl, by simp, row2_new _ _ _⟩
    · simp only [List.getElem?_toArray, List.getElem?_cons_zero, List.getElem?_cons_succ, Option.some.injEq] at ho
      subst ho
      obtain ⟨sg, hsq, hsg, hrow⟩ : SL w [⟨⟨ai, an⟩, ao⟩, ⟨⟨ui, un⟩, uo⟩] 2 (a.tmps.getD 82 undef) := hd ⟨50, .data⟩ (by simp) rfl
      have h69 : a.tmps.getD 69 undef = .bool true := hd ⟨37, .guard⟩ (by simp) rfl
      have hgv : gpVal _ a 37 = .bool true := hd ⟨37, .guard⟩ (by simp) rfl
      rw [if_pos (by rw [gp_some rfl hgv]; decide)]
      clear hgv
      intro K hK
      go_simp
      go_at_call 20
      refine (Jau.out _ _ hI.1 hsg hrow).mono ?_
      rintro e w' ⟨rfl, hb⟩
      exact hK _ _ hb ⟨bt hI.1 hb, bt hI.2 hb⟩ rfl
    · simp only [List.getElem?_toArray, List.getElem?_cons_zero, List.getElem?_cons_succ, Option.some.injEq] at ho
      subst ho
      have h76 : a.tmps.getD 76 undef = .agg #[.int .i64 (ti : Nat), .string (ba' tn), .int .i64 (to : Nat)] := hd ⟨44, .data⟩ (by simp) rfl
      have h83 : a.tmps.getD 83 undef = .agg #[.int .i64 (ti : Nat), .string (ba' tn), .int .i64 (to : Nat)] := hd ⟨51, .data⟩ (by simp) rfl
      have h69 : a.tmps.getD 69 undef = .bool true := hd ⟨37, .guard⟩ (by simp) rfl
      have hgv : gpVal _ a 37 = .bool true := hd ⟨37, .guard⟩ (by simp) rfl
      rw [if_pos (by rw [gp_some rfl hgv]; decide)]
      clear hgv
      intro K hK
      go_simp
      exact hK _ _ (Below.refl _ _) hI rfl
    · simp only [List.getElem?_toArray, List.getElem?_cons_zero, List.getElem?_cons_succ, Option.some.injEq] at ho
      subst ho
      have h69 : a.tmps.getD 69 undef = .bool true := hd ⟨37, .data⟩ (by simp) rfl
      have h84 : a.tmps.getD 84 undef = .bool true := hd ⟨52, .data⟩ (by simp) rfl
      rw [if_pos (gp_none rfl)]
      intro K hK
      go_simp
      exact hK _ _ (Below.refl _ _) hI rfl
    · simp only [List.getElem?_toArray, List.getElem?_cons_zero, List.getElem?_cons_succ, Option.some.injEq] at ho
      subst ho
      have h85 : a.tmps.getD 85 undef = .bool true := hd ⟨53, .data⟩ (by simp) rfl
      rw [if_pos (gp_none rfl)]
      intro K hK
      go_simp
      exact hK _ _ (Below.refl _ _) hI rfl
    · simp only [List.getElem?_toArray, List.getElem?_cons_zero, List.getElem?_cons_succ, Option.some.injEq] at ho
      subst ho
      have h86 : a.tmps.getD 86 undef = .bool true := hd ⟨54, .guard⟩ (by simp) rfl
      have hgv : gpVal _ a 54 = .bool true := hd ⟨54, .guard⟩ (by simp) rfl
      rw [if_pos (by rw [gp_some rfl hgv]; decide)]
      clear hgv
      intro K hK
      go_simp
      exact hK _ _ (Below.refl _ _) hI rfl
    · simp only [List.getElem?_toArray, List.getElem?_cons_zero, List.getElem?_cons_succ, Option.some.injEq] at ho
      subst ho
      have h86 : a.tmps.getD 86 undef = .bool true := hd ⟨54, .guard⟩ (by simp) rfl
      have hgv : gpVal _ a 54 = .bool true := hd ⟨54, .guard⟩ (by simp) rfl
      rw [if_pos (by rw [gp_some rfl hgv]; decide)]
      clear hgv
      intro K hK
      go_simp
      exact hK _ _ (Below.refl _ _) hI rfl
    · simp only [List.getElem?_toArray, List.getElem?_cons_zero, List.getElem?_cons_succ, Option.some.injEq] at ho
      subst ho
      have h87 : a.tmps.getD 87 undef = .agg #[.int .i64 3, .string ⟨#[]⟩, .int .i64 0] := hd ⟨55, .data⟩ (by simp) rfl
      have h88 : a.tmps.getD 88 undef = .agg #[.int .i64 (ai : Nat), .string (ba' an), .int .i64 (ao : Nat)] := hd ⟨56, .data⟩ (by simp) rfl
      have h86 : a.tmps.getD 86 undef = .bool true := hd ⟨54, .guard⟩ (by simp) rfl
      have hgv : gpVal _ a 54 = .bool true := hd ⟨54, .guard⟩ (by simp) rfl
      rw [if_pos (by rw [gp_some rfl hgv]; decide)]
      clear hgv
      intro K hK
      go_simp
      go_at_call 24
      refine (Hti.out _ hI.1).mono ?_
      rintro e w' ⟨rfl, hb⟩
      exact hK _ _ hb ⟨bt hI.1 hb, bt hI.2 hb⟩ rfl
    · simp only [List.getElem?_toArray, List.getElem?_cons_zero, List.getElem?_cons_succ, Option.some.injEq] at ho
      subst ho
      have h86 : a.tmps.getD 86 undef = .bool true := hd ⟨54, .guard⟩ (by simp) rfl
      have hgv : gpVal _ a 54 = .bool true := hd ⟨54, .guard⟩ (by simp) rfl
      rw [if_pos (by rw [gp_some rfl hgv]; decide)]
      clear hgv
      intro K hK
      go_simp
      exact hK _ _ (Below.refl _ _) hI rfl
    · simp only [List.getElem?_toArray, List.getElem?_cons_zero, List.getElem?_cons_succ, Option.some.injEq] at ho
      subst ho
      have h89 : a.tmps.getD 89 undef = .agg #[.int .i64 (ai : Nat), .string (ba' an), .int .i64 (ao : Nat)] := hd ⟨57, .data⟩ (by simp) rfl
      have h90 : a.tmps.getD 90 undef = .agg #[.int .i64 (ai : Nat), .string (ba' an), .int .i64 (ao : Nat)] := hd ⟨58, .data⟩ (by simp) rfl
      have h86 : a.tmps.getD 86 undef = .bool true := hd ⟨54, .guard⟩ (by simp) rfl
      have hgv : gpVal _ a 54 = .bool true := hd ⟨54, .guard⟩ (by simp) rfl
      rw [if_pos (by rw [gp_some rfl hgv]; decide)]
      clear hgv
      intro K hK
      go_simp
      exact hK _ _ (Below.refl _ _) hI rfl
    · simp only [List.getElem?_toArray, List.getElem?_cons_zero, List.getElem?_cons_succ, Option.some.injEq] at ho
      subst ho
      have h86 : a.tmps.getD 86 undef = .bool true := hd ⟨54, .data⟩ (by simp) rfl
      have h91 : a.tmps.getD 91 undef = .bool true := hd ⟨59, .data⟩ (by simp) rfl
      rw [if_pos (gp_none rfl)]
      intro K hK
      go_simp
      exact hK _ _ (Below.refl _ _) hI rfl
    · simp only [List.getElem?_toArray, List.getElem?_cons_zero, List.getElem?_cons_succ, Option.some.injEq] at ho
      subst ho
      have h92 : a.tmps.getD 92 undef = .bool true := hd ⟨60, .data⟩ (by simp) rfl
      rw [if_pos (gp_none rfl)]
      intro K hK
      go_simp
      exact hK _ _ (Below.refl _ _) hI rfl
    · simp only [List.getElem?_toArray, List.getElem?_cons_zero, List.getElem?_cons_succ, Option.some.injEq] at ho
      subst ho
      have h93 : a.tmps.getD 93 undef = .bool true := hd ⟨61, .guard⟩ (by simp) rfl
      have hgv : gpVal _ a 61 = .bool true := hd ⟨61, .guard⟩ (by simp) rfl
      rw [if_pos (by rw [gp_some rfl hgv]; decide)]
      clear hgv
      intro K hK
      go_simp
      exact hK _ _ (Below.refl _ _) hI rfl
    · simp only [List.getElem?_toArray, List.getElem?_cons_zero, List.getElem?_cons_succ, Option.some.injEq] at ho
      subst ho
      have h93 : a.tmps.getD 93 undef = .bool true := hd ⟨61, .guard⟩ (by simp) rfl
      have hgv : gpVal _ a 61 = .bool true := hd ⟨61, .guard⟩ (by simp) rfl
      rw [if_pos (by rw [gp_some rfl hgv]; decide)]
      clear hgv
      intro K hK
      go_simp
      exact hK _ _ (Below.refl _ _) hI rfl
    · simp only [List.getElem?_toArray, List.getElem?_cons_zero, List.getElem?_cons_succ, Option.some.injEq] at ho
      subst ho
      have h94 : a.tmps.getD 94 undef = .agg #[.int .i64 (ai : Nat), .string (ba' an), .int .i64 (ao : Nat)] := hd ⟨62, .data⟩ (by simp) rfl
      have h95 : a.tmps.getD 95 undef = .agg #[.int .i64 (ai : Nat), .string (ba' an), .int .i64 (ao : Nat)] := hd ⟨63, .data⟩ (by simp) rfl
      have h93 : a.tmps.getD 93 undef = .bool true := hd ⟨61, .guard⟩ (by simp) rfl
      have hgv : gpVal _ a 61 = .bool true := hd ⟨61, .guard⟩ (by simp) rfl
      rw [if_pos (by rw [gp_some rfl hgv]; decide)]
      clear hgv
      intro K hK
      go_simp
      exact hK _ _ (Below.refl _ _) hI rfl
    · simp only [List.getElem?_toArray, List.getElem?_cons_zero, List.getElem?_cons_succ, Option.some.injEq] at ho
      subst ho
      have h96 : a.tmps.getD 96 undef = .bool true := hd ⟨64, .data⟩ (by simp) rfl
      have h93 : a.tmps.getD 93 undef = .bool true := hd ⟨61, .guard⟩ (by simp) rfl
      have hgv : gpVal _ a 61 = .bool true := hd ⟨61, .guard⟩ (by simp) rfl
      rw [if_pos (by rw [gp_some rfl hgv]; decide)]
      clear hgv
      intro K hK
      go_simp
      exact hK _ _ (Below.refl _ _) hI rfl
    · simp only [List.getElem?_toArray, List.getElem?_cons_zero, List.getElem?_cons_succ, Option.some.injEq] at ho
      subst ho
      have h97 : a.tmps.getD 97 undef = .bool true := hd ⟨65, .guard⟩ (by simp) rfl
      have hgv : gpVal _ a 65 = .bool true := hd ⟨65, .guard⟩ (by simp) rfl
      rw [if_neg (by rw [gp_some rfl hgv]; decide)]
      clear hgv
      exact ⟨rfl, Below.refl _ _⟩
    · simp only [List.getElem?_toArray, List.getElem?_cons_zero, List.getElem?_cons_succ, Option.some.injEq] at ho
      subst ho
      have h98 : a.tmps.getD 98 undef = undef := hd ⟨66, .data⟩ (by simp) rfl
      have h97 : a.tmps.getD 97 undef = .bool true := hd ⟨65, .guard⟩ (by simp) rfl
      have hgv : gpVal _ a 65 = .bool true := hd ⟨65, .guard⟩ (by simp) rfl
      rw [if_neg (by rw [gp_some rfl hgv]; decide)]
      clear hgv
      exact ⟨rfl, Below.refl _ _⟩
    · simp only [List.getElem?_toArray, List.getElem?_cons_zero, List.getElem?_cons_succ, Option.some.injEq] at ho
      subst ho
      have h99 : a.tmps.getD 99 undef = undef := hd ⟨67, .data⟩ (by simp) rfl
      have h97 : a.tmps.getD 97 undef = .bool true := hd ⟨65, .guard⟩ (by simp) rfl
      have hgv : gpVal _ a 65 = .bool true := hd ⟨65, .guard⟩ (by simp) rfl
      rw [if_neg (by rw [gp_some rfl hgv]; decide)]
      clear hgv
      exact ⟨rfl, Below.refl _ _⟩
    · simp only [List.getElem?_toArray, List.getElem?_cons_zero, List.getElem?_cons_succ, Option.some.injEq] at ho
      subst ho
      have h100 : a.tmps.getD 100 undef = undef := hd ⟨68, .data⟩ (by simp) rfl
      have h97 : a.tmps.getD 97 undef = .bool true := hd ⟨65, .guard⟩ (by simp) rfl
      have hgv : gpVal _ a 65 = .bool true := hd ⟨65, .guard⟩ (by simp) rfl
      rw [if_neg (by rw [gp_some rfl hgv]; decide)]
      clear hgv
      exact ⟨rfl, Below.refl _ _⟩
    · simp only [List.getElem?_toArray, List.getElem?_cons_zero, List.getElem?_cons_succ, Option.some.injEq] at ho
      subst ho
      have h101 : a.tmps.getD 101 undef = undef := hd ⟨69, .guard⟩ (by simp) rfl
      have hgv : gpVal _ a 69 = undef := hd ⟨69, .guard⟩ (by simp) rfl
      rw [if_neg (by rw [gp_undef rfl hgv]; decide)]
      exact ⟨rfl, Below.refl _ _⟩
    · simp only [List.getElem?_toArray, List.getElem?_cons_zero, List.getElem?_cons_succ, Option.some.injEq] at ho
      subst ho
      have h101 : a.tmps.getD 101 undef = undef := hd ⟨69, .guard⟩ (by simp) rfl
      have hgv : gpVal _ a 69 = undef := hd ⟨69, .guard⟩ (by simp) rfl
      rw [if_neg (by rw [gp_undef rfl hgv]; decide)]
      exact ⟨rfl, Below.refl _ _⟩
    · simp only [List.getElem?_toArray, List.getElem?_cons_zero, List.getElem?_cons_succ, Option.some.injEq] at ho
      subst ho
      have h102 : a.tmps.getD 102 undef = undef := hd ⟨70, .data⟩ (by simp) rfl
      have h103 : a.tmps.getD 103 undef = undef := hd ⟨71, .data⟩ (by simp) rfl
      have h101 : a.tmps.getD 101 undef = undef := hd ⟨69, .guard⟩ (by simp) rfl
      have hgv : gpVal _ a 69 = undef := hd ⟨69, .guard⟩ (by simp) rfl
      rw [if_neg (by rw [gp_undef rfl hgv]; decide)]
      exact ⟨rfl, Below.refl _ _⟩
    · simp only [List.getElem?_toArray, List.getElem?_cons_zero, List.getElem?_cons_succ, Option.some.injEq] at ho
      subst ho
      have h101 : a.tmps.getD 101 undef = undef := hd ⟨69, .data⟩ (by simp) rfl
      have h104 : a.tmps.getD 104 undef = undef := hd ⟨72, .data⟩ (by simp) rfl
      have h97 : a.tmps.getD 97 undef = .bool true := hd ⟨65, .guard⟩ (by simp) rfl
      have hgv : gpVal _ a 65 = .bool true := hd ⟨65, .guard⟩ (by simp) rfl
      rw [if_neg (by rw [gp_some rfl hgv]; decide)]
      clear hgv
      exact ⟨rfl, Below.refl _ _⟩
    · simp only [List.getElem?_toArray, List.getElem?_cons_zero, List.getElem?_cons_succ, Option.some.injEq] at ho
      subst ho
      have h97 : a.tmps.getD 97 undef = .bool true := hd ⟨65, .data⟩ (by simp) rfl
      have h105 : a.tmps.getD 105 undef = undef := hd ⟨73, .data⟩ (by simp) rfl
      have h93 : a.tmps.getD 93 undef = .bool true := hd ⟨61, .guard⟩ (by simp) rfl
      have hgv : gpVal _ a 61 = .bool true := hd ⟨61, .guard⟩ (by simp) rfl
      rw [if_pos (by rw [gp_some rfl hgv]; decide)]
      clear hgv
      intro K hK
      go_simp
      exact hK _ _ (Below.refl _ _) hI rfl
    · simp only [List.getElem?_toArray, List.getElem?_cons_zero, List.getElem?_cons_succ, Option.some.injEq] at ho
      subst ho
      have h93 : a.tmps.getD 93 undef = .bool true := hd ⟨61, .data⟩ (by simp) rfl
      have h106 : a.tmps.getD 106 undef = .bool true := hd ⟨74, .data⟩ (by simp) rfl
      rw [if_pos (gp_none rfl)]
      intro K hK
      go_simp
      exact hK _ _ (Below.refl _ _) hI rfl
    · simp only [List.getElem?_toArray, List.getElem?_cons_zero, List.getElem?_cons_succ, Option.some.injEq] at ho
      subst ho
      have h107 : a.tmps.getD 107 undef = .bool true := hd ⟨75, .data⟩ (by simp) rfl
      rw [if_pos (gp_none rfl)]
      intro K hK
      go_simp
      exact hK _ _ (Below.refl _ _) hI rfl
    · simp only [List.getElem?_toArray, List.getElem?_cons_zero, List.getElem?_cons_succ, Option.some.injEq] at ho
      subst ho
      have h108 : a.tmps.getD 108 undef = .bool true := hd ⟨76, .guard⟩ (by simp) rfl
      have hgv : gpVal _ a 76 = .bool true := hd ⟨76, .guard⟩ (by simp) rfl
      rw [if_pos (by rw [gp_some rfl hgv]; decide)]
      clear hgv
      intro K hK
      go_simp
      exact hK _ _ (Below.refl _ _) hI rfl
    · simp only [List.getElem?_toArray, List.getElem?_cons_zero, List.getElem?_cons_succ, Option.some.injEq] at ho
      subst ho
      have h108 : a.tmps.getD 108 undef = .bool true := hd ⟨76, .guard⟩ (by simp) rfl
      have hgv : gpVal _ a 76 = .bool true := hd ⟨76, .guard⟩ (by simp) rfl
      rw [if_pos (by rw [gp_some rfl hgv]; decide)]
      clear hgv
      intro K hK
      go_simp
      exact hK _ _ (Below.refl _ _) hI rfl
    · simp only [List.getElem?_toArray, List.getElem?_cons_zero, List.getElem?_cons_succ, Option.some.injEq] at ho
      subst ho
      have h109 : a.tmps.getD 109 undef = .agg #[.int .i64 (ai : Nat), .string (ba' an), .int .i64 (ao : Nat)] := hd ⟨77, .data⟩ (by simp) rfl
      have h110 : a.tmps.getD 110 undef = .agg #[.int .i64 (ai : Nat), .string (ba' an), .int .i64 (ao : Nat)] := hd ⟨78, .data⟩ (by simp) rfl
      have h108 : a.tmps.getD 108 undef = .bool true := hd ⟨76, .guard⟩ (by simp) rfl
      have hgv : gpVal _ a 76 = .bool true := hd ⟨76, .guard⟩ (by simp) rfl
      rw [if_pos (by rw [gp_some rfl hgv]; decide)]
      clear hgv
      intro K hK
      go_simp
      go_at_call 22
      refine (Hs1.out _ hI.1).mono ?_
      rintro e w' ⟨rfl, hb⟩
      exact hK _ _ hb ⟨bt hI.1 hb, bt hI.2 hb⟩ rfl
    · simp only [List.getElem?_toArray, List.getElem?_cons_zero, List.getElem?_cons_succ, Option.some.injEq] at ho
      subst ho
      have h108 : a.tmps.getD 108 undef = .bool true := hd ⟨76, .data⟩ (by simp) rfl
      have h111 : a.tmps.getD 111 undef = .bool true := hd ⟨79, .data⟩ (by simp) rfl
      rw [if_pos (gp_none rfl)]
      intro K hK
      go_simp
      exact hK _ _ (Below.refl _ _) hI rfl
    · simp only [List.getElem?_toArray, List.getElem?_cons_zero, List.getElem?_cons_succ, Option.some.injEq] at ho
      subst ho
      have h112 : a.tmps.getD 112 undef = .bool true := hd ⟨80, .data⟩ (by simp) rfl
      rw [if_pos (gp_none rfl)]
      intro K hK
      go_simp
      exact hK _ _ (Below.refl _ _) hI rfl
    · simp only [List.getElem?_toArray, List.getElem?_cons_zero, List.getElem?_cons_succ, Option.some.injEq] at ho
      subst ho
      have h113 : a.tmps.getD 113 undef = .bool true := hd ⟨81, .guard⟩ (by simp) rfl
      have hgv : gpVal _ a 81 = .bool true := hd ⟨81, .guard⟩ (by simp) rfl
      rw [if_pos (by rw [gp_some rfl hgv]; decide)]
      clear hgv
      intro K hK
      go_simp
      exact hK _ _ (Below.refl _ _) hI rfl
    · simp only [List.getElem?_toArray, List.getElem?_cons_zero, List.getElem?_cons_succ, Option.some.injEq] at ho
      subst ho
      have h113 : a.tmps.getD 113 undef = .bool true := hd ⟨81, .guard⟩ (by simp) rfl
      have hgv : gpVal _ a 81 = .bool true := hd ⟨81, .guard⟩ (by simp) rfl
      rw [if_pos (by rw [gp_some rfl hgv]; decide)]
      clear hgv
      intro K hK
      go_simp
      exact hK _ _ (Below.refl _ _) hI rfl
    · simp only [List.getElem?_toArray, List.getElem?_cons_zero, List.getElem?_cons_succ, Option.some.injEq] at ho
      subst ho
      have h114 : a.tmps.getD 114 undef = .agg #[.int .i64 (ai : Nat), .string (ba' an), .int .i64 (ao : Nat)] := hd ⟨82, .data⟩ (by simp) rfl
      have h115 : a.tmps.getD 115 undef = .agg #[.int .i64 (ai : Nat), .string (ba' an), .int .i64 (ao : Nat)] := hd ⟨83, .data⟩ (by simp) rfl
      have h113 : a.tmps.getD 113 undef = .bool true := hd ⟨81, .guard⟩ (by simp) rfl
      have hgv : gpVal _ a 81 = .bool true := hd ⟨81, .guard⟩ (by simp) rfl
      rw [if_pos (by rw [gp_some rfl hgv]; decide)]
      clear hgv
      intro K hK
      go_simp
      go_at_call 22
      refine (Hs2.out _ hI.1).mono ?_
      rintro e w' ⟨rfl, hb⟩
      exact hK _ _ hb ⟨bt hI.1 hb, bt hI.2 hb⟩ rfl
    · simp only [List.getElem?_toArray, List.getElem?_cons_zero, List.getElem?_cons_succ, Option.some.injEq] at ho
      subst ho
      have h113 : a.tmps.getD 113 undef = .bool true := hd ⟨81, .data⟩ (by simp) rfl
      have h116 : a.tmps.getD 116 undef = .bool true := hd ⟨84, .data⟩ (by simp) rfl
      rw [if_pos (gp_none rfl)]
      intro K hK
      go_simp
      exact hK _ _ (Below.refl _ _) hI rfl
    · simp only [List.getElem?_toArray, List.getElem?_cons_zero, List.getElem?_cons_succ, Option.some.injEq] at ho
      subst ho
      have h117 : a.tmps.getD 117 undef = .bool true := hd ⟨85, .data⟩ (by simp) rfl
      rw [if_pos (gp_none rfl)]
      intro K hK
      go_simp
      exact hK _ _ (Below.refl _ _) hI rfl
  · intro a w hI hk hs
    exact hQ a w hk.1 (hk.2.1.trans hsz) (hs 86 (of_decide_eq_true (by kernel_rfl))) hI.1
def EwSp (ga _gb _gc _g1 _gs : Nat) (bi bo : Nat) (bn : List UInt8) (ci co : Nat) (cn : List UInt8) (xi xo : Nat) (xn : List UInt8) (yi yo : Nat) (yn : List UInt8) (zi zo : Nat) (zn : List UInt8) (vi vo : Nat) (vn : List UInt8) (ui uo : Nat) (un : List UInt8) (ti to : Nat) (tn : List UInt8) (ao : Nat) : List Sp := [.val (.agg #[.int .i64 0, .string ⟨#[]⟩, .int .i64 (ao : Nat)]), .val (.agg #[.int .i64 (bi : Nat), .string (ba' bn), .int .i64 (bo : Nat)]), .sl [⟨⟨0, []⟩, ao⟩, ⟨⟨bi, bn⟩, bo⟩] 2, .val (.agg #[.int .i64 (xi : Nat), .string (ba' xn), .int .i64 (xo : Nat)]), .val (.agg #[.int .i64 (bi : Nat), .string (ba' bn), .int .i64 (bo : Nat)]), .val (.agg #[.int .i64 0, .string ⟨#[]⟩, .int .i64 (ao : Nat)]), .sl [⟨⟨bi, bn⟩, bo⟩, ⟨⟨0, []⟩, ao⟩] 2, .val (.agg #[.int .i64 (xi : Nat), .string (ba' xn), .int .i64 (xo : Nat)]), .val (.bool true), .val (.bool true), .val (.agg #[.int .i64 0, .string ⟨#[]⟩, .int .i64 (ao : Nat)]), .val (.agg #[.int .i64 (bi : Nat), .string (ba' bn), .int .i64 (bo : Nat)]), .sl [⟨⟨0, []⟩, ao⟩, ⟨⟨bi, bn⟩, bo⟩] 2, .val (.agg #[.int .i64 (yi : Nat), .string (ba' yn), .int .i64 (yo : Nat)]), .val (.agg #[.int .i64 (bi : Nat), .string (ba' bn), .int .i64 (bo : Nat)]), .val (.agg #[.int .i64 0, .string ⟨#[]⟩, .int .i64 (ao : Nat)]), .sl [⟨⟨bi, bn⟩, bo⟩, ⟨⟨0, []⟩, ao⟩] 2, .val (.agg #[.int .i64 (yi : Nat), .string (ba' yn), .int .i64 (yo : Nat)]), .val (.bool true), .val (.bool true), .val (.bool true), .val (.agg #[.int .i64 0, .string ⟨#[]⟩, .int .i64 (ao : Nat)]), .val (.agg #[.int .i64 (bi : Nat), .string (ba' bn), .int .i64 (bo : Nat)]), .sl [⟨⟨0, []⟩, ao⟩, ⟨⟨bi, bn⟩, bo⟩] 2, .val (.agg #[.int .i64 (xi : Nat), .string (ba' xn), .int .i64 (xo : Nat)]), .val (.agg #[.int .i64 (ci : Nat), .string (ba' cn), .int .i64 (co : Nat)]), .sl [⟨⟨xi, xn⟩, xo⟩, ⟨⟨ci, cn⟩, co⟩] 2, .val (.agg #[.int .i64 (zi : Nat), .string (ba' zn), .int .i64 (zo : Nat)]), .val (.agg #[.int .i64 0, .string ⟨#[]⟩, .int .i64 (ao : Nat)]), .val (.agg #[.int .i64 (bi : Nat), .string (ba' bn), .int .i64 (bo : Nat)]), .val (.agg #[.int .i64 (ci : Nat), .string (ba' cn), .int .i64 (co : Nat)]), .sl [⟨⟨bi, bn⟩, bo⟩, ⟨⟨ci, cn⟩, co⟩] 2, .val (.agg #[.int .i64 (vi : Nat), .string (ba' vn), .int .i64 (vo : Nat)]), .sl [⟨⟨0, []⟩, ao⟩, ⟨⟨vi, vn⟩, vo⟩] 2, .val (.agg #[.int .i64 (zi : Nat), .string (ba' zn), .int .i64 (zo : Nat)]), .val (.bool true), .val (.bool true), .val (.bool true), .val (.agg #[.int .i64 0, .string ⟨#[]⟩, .int .i64 (ao : Nat)]), .val (.agg #[.int .i64 (bi : Nat), .string (ba' bn), .int .i64 (bo : Nat)]), .sl [⟨⟨0, []⟩, ao⟩, ⟨⟨bi, bn⟩, bo⟩] 2, .val (.agg #[.int .i64 (yi : Nat), .string (ba' yn), .int .i64 (yo : Nat)]), .val (.agg #[.int .i64 (ci : Nat), .string (ba' cn), .int .i64 (co : Nat)]), .sl [⟨⟨yi, yn⟩, yo⟩, ⟨⟨ci, cn⟩, co⟩] 2, .val (.agg #[.int .i64 (ti : Nat), .string (ba' tn), .int .i64 (to : Nat)]), .val (.agg #[.int .i64 0, .string ⟨#[]⟩, .int .i64 (ao : Nat)]), .val (.agg #[.int .i64 (bi : Nat), .string (ba' bn), .int .i64 (bo : Nat)]), .val (.agg #[.int .i64 (ci : Nat), .string (ba' cn), .int .i64 (co : Nat)]), .sl [⟨⟨bi, bn⟩, bo⟩, ⟨⟨ci, cn⟩, co⟩] 2, .val (.agg #[.int .i64 (ui : Nat), .string (ba' un), .int .i64 (uo : Nat)]), .sl [⟨⟨0, []⟩, ao⟩, ⟨⟨ui, un⟩, uo⟩] 2, .val (.agg #[.int .i64 (ti : Nat), .string (ba' tn), .int .i64 (to : Nat)]), .val (.bool true), .val (.bool true), .val (.bool true), .val (.agg #[.int .i64 3, .string ⟨#[]⟩, .int .i64 0]), .val (.agg #[.int .i64 0, .string ⟨#[]⟩, .int .i64 (ao : Nat)]), .val (.agg #[.int .i64 0, .string ⟨#[]⟩, .int .i64 3]), .val (.agg #[.int .i64 0, .string ⟨#[]⟩, .int .i64 3]), .val (.bool true), .val (.bool true), .val (.bool true), .val (.agg #[.int .i64 0, .string ⟨#[]⟩, .int .i64 3]), .val (.agg #[.int .i64 0, .string ⟨#[]⟩, .int .i64 (ao : Nat)]), .val (.bool false), .val (.bool false), .val (.pointer (some ⟨ga, 0, none⟩)), .val (.int .i64 0), .val (.bool true), .val (.bool true), .val (.agg #[.int .i64 0, .string ⟨#[]⟩, .int .i64 3]), .val (.agg #[.int .i64 0, .string ⟨#[]⟩, .int .i64 3]), .val (.bool true), .val (.bool true), .val (.bool true), .val (.bool true), .val (.bool true), .val (.agg #[.int .i64 0, .string ⟨#[]⟩, .int .i64 (ao : Nat)]), .val (.agg #[.int .i64 0, .string ⟨#[]⟩, .int .i64 3]), .val (.bool true), .val (.bool true), .val (.bool true), .val (.agg #[.int .i64 0, .string ⟨#[]⟩, .int .i64 3]), .val (.agg #[.int .i64 0, .string ⟨#[]⟩, .int .i64 (ao : Nat)]), .val (.bool true), .val (.bool true), .val (.bool true)]
set_option maxHeartbeats 16000000 in
theorem Ew_region (ga gb gc g1 gs : Nat) (bi bo : Nat) (bn : List UInt8) (ci co : Nat) (cn : List UInt8) (xi xo : Nat) (xn : List UInt8) (yi yo : Nat) (yn : List UInt8) (zi zo : Nat) (zn : List UInt8) (vi vo : Nat) (vn : List UInt8) (ui uo : Nat) (un : List UInt8) (ti to : Nat) (tn : List UInt8) (ao : Nat) (w0 : World) {W : World} {Q : Exit → Act → World → Prop} {a0 : Act} (hsz : a0.tmps.size = 118) (f3 : a0.tmps.getD 3 undef = .pointer (some ⟨ga, 0, none⟩)) (f4 : a0.tmps.getD 4 undef = .pointer (some ⟨gb, 0, none⟩)) (f5 : a0.tmps.getD 5 undef = .pointer (some ⟨gc, 0, none⟩)) (f7 : a0.tmps.getD 7 undef = .pointer (some ⟨g1, 0, none⟩)) (f8 : a0.tmps.getD 8 undef = .pointer (some ⟨gs, 0, none⟩)) (hb0 : Below w0.heap.size w0 W) (C0 : W.cell? ⟨ga, 0, none⟩ = some (.int .i64 0)) (C1 : W.cell? ⟨ga, 1, none⟩ = some (.string ⟨#[]⟩)) (C2 : W.cell? ⟨ga, 2, none⟩ = some (.int .i64 (ao : Nat))) (C3 : W.cell? ⟨gb, 0, none⟩ = some (.int .i64 (bi : Nat))) (C4 : W.cell? ⟨gb, 1, none⟩ = some (.string (ba' bn))) (C5 : W.cell? ⟨gb, 2, none⟩ = some (.int .i64 (bo : Nat))) (C6 : W.cell? ⟨gc, 0, none⟩ = some (.int .i64 (ci : Nat))) (C7 : W.cell? ⟨gc, 1, none⟩ = some (.string (ba' cn))) (C8 : W.cell? ⟨gc, 2, none⟩ = some (.int .i64 (co : Nat))) (C9 : W.cell? ⟨g1, 0, none⟩ = some (.int .i64 3)) (C10 : W.cell? ⟨g1, 1, none⟩ = some (.string ⟨#[]⟩)) (C11 : W.cell? ⟨g1, 2, none⟩ = some (.int .i64 0)) (C12 : W.cell? ⟨gs, 0, none⟩ = some (.int .i64 0)) (C13 : W.cell? ⟨gs, 1, none⟩ = some (.string ⟨#[]⟩)) (C14 : W.cell? ⟨gs, 2, none⟩ = some (.int .i64 3)) (Eab : Hid (∀ w1 g, Below w0.heap.size w0 w1 → g < w1.heap.size → TRow w1 g [⟨⟨0, []⟩, ao⟩, ⟨⟨bi, bn⟩, bo⟩] → Calls Tryd.prog 19 #[.slice (some ⟨g, 0, none⟩) 2 2] w1 fun e w' => e = .returned (.agg #[.int .i64 (xi : Nat), .string (ba' xn), .int .i64 (xo : Nat)]) ∧ Below w1.heap.size w1 w')) (Eba : Hid (∀ w1 g, Below w0.heap.size w0 w1 → g < w1.heap.size → TRow w1 g [⟨⟨bi, bn⟩, bo⟩, ⟨⟨0, []⟩, ao⟩] → Calls Tryd.prog 19 #[.slice (some ⟨g, 0, none⟩) 2 2] w1 fun e w' => e = .returned (.agg #[.int .i64 (xi : Nat), .string (ba' xn), .int .i64 (xo : Nat)]) ∧ Below w1.heap.size w1 w')) (Jab : Hid (∀ w1 g, Below w0.heap.size w0 w1 → g < w1.heap.size → TRow w1 g [⟨⟨0, []⟩, ao⟩, ⟨⟨bi, bn⟩, bo⟩] → Calls Tryd.prog 20 #[.slice (some ⟨g, 0, none⟩) 2 2] w1 fun e w' => e = .returned (.agg #[.int .i64 (yi : Nat), .string (ba' yn), .int .i64 (yo : Nat)]) ∧ Below w1.heap.size w1 w')) (Jba : Hid (∀ w1 g, Below w0.heap.size w0 w1 → g < w1.heap.size → TRow w1 g [⟨⟨bi, bn⟩, bo⟩, ⟨⟨0, []⟩, ao⟩] → Calls Tryd.prog 20 #[.slice (some ⟨g, 0, none⟩) 2 2] w1 fun e w' => e = .returned (.agg #[.int .i64 (yi : Nat), .string (ba' yn), .int .i64 (yo : Nat)]) ∧ Below w1.heap.size w1 w')) (Exc : Hid (∀ w1 g, Below w0.heap.size w0 w1 → g < w1.heap.size → TRow w1 g [⟨⟨xi, xn⟩, xo⟩, ⟨⟨ci, cn⟩, co⟩] → Calls Tryd.prog 19 #[.slice (some ⟨g, 0, none⟩) 2 2] w1 fun e w' => e = .returned (.agg #[.int .i64 (zi : Nat), .string (ba' zn), .int .i64 (zo : Nat)]) ∧ Below w1.heap.size w1 w')) (Ebc : Hid (∀ w1 g, Below w0.heap.size w0 w1 → g < w1.heap.size → TRow w1 g [⟨⟨bi, bn⟩, bo⟩, ⟨⟨ci, cn⟩, co⟩] → Calls Tryd.prog 19 #[.slice (some ⟨g, 0, none⟩) 2 2] w1 fun e w' => e = .returned (.agg #[.int .i64 (vi : Nat), .string (ba' vn), .int .i64 (vo : Nat)]) ∧ Below w1.heap.size w1 w')) (Eav : Hid (∀ w1 g, Below w0.heap.size w0 w1 → g < w1.heap.size → TRow w1 g [⟨⟨0, []⟩, ao⟩, ⟨⟨vi, vn⟩, vo⟩] → Calls Tryd.prog 19 #[.slice (some ⟨g, 0, none⟩) 2 2] w1 fun e w' => e = .returned (.agg #[.int .i64 (zi : Nat), .string (ba' zn), .int .i64 (zo : Nat)]) ∧ Below w1.heap.size w1 w')) (Jyc : Hid (∀ w1 g, Below w0.heap.size w0 w1 → g < w1.heap.size → TRow w1 g [⟨⟨yi, yn⟩, yo⟩, ⟨⟨ci, cn⟩, co⟩] → Calls Tryd.prog 20 #[.slice (some ⟨g, 0, none⟩) 2 2] w1 fun e w' => e = .returned (.agg #[.int .i64 (ti : Nat), .string (ba' tn), .int .i64 (to : Nat)]) ∧ Below w1.heap.size w1 w')) (Jbc : Hid (∀ w1 g, Below w0.heap.size w0 w1 → g < w1.heap.size → TRow w1 g [⟨⟨bi, bn⟩, bo⟩, ⟨⟨ci, cn⟩, co⟩] → Calls Tryd.prog 20 #[.slice (some ⟨g, 0, none⟩) 2 2] w1 fun e w' => e = .returned (.agg #[.int .i64 (ui : Nat), .string (ba' un), .int .i64 (uo : Nat)]) ∧ Below w1.heap.size w1 w')) (Jau : Hid (∀ w1 g, Below w0.heap.size w0 w1 → g < w1.heap.size → TRow w1 g [⟨⟨0, []⟩, ao⟩, ⟨⟨ui, un⟩, uo⟩] → Calls Tryd.prog 20 #[.slice (some ⟨g, 0, none⟩) 2 2] w1 fun e w' => e = .returned (.agg #[.int .i64 (ti : Nat), .string (ba' tn), .int .i64 (to : Nat)]) ∧ Below w1.heap.size w1 w')) (Hti : Hid (∀ w1, Below w0.heap.size w0 w1 → Calls Tryd.prog 24 #[.agg #[.int .i64 3, .string ⟨#[]⟩, .int .i64 0], .agg #[.int .i64 0, .string ⟨#[]⟩, .int .i64 (ao : Nat)]] w1 fun e w' => e = .returned (.agg #[.int .i64 0, .string ⟨#[]⟩, .int .i64 3]) ∧ Below w1.heap.size w1 w')) (Hs1 : Hid (∀ w1, Below w0.heap.size w0 w1 → Calls Tryd.prog 22 #[.agg #[.int .i64 0, .string ⟨#[]⟩, .int .i64 (ao : Nat)], .agg #[.int .i64 0, .string ⟨#[]⟩, .int .i64 3]] w1 fun e w' => e = .returned (.bool true) ∧ Below w1.heap.size w1 w')) (Hs2 : Hid (∀ w1, Below w0.heap.size w0 w1 → Calls Tryd.prog 22 #[.agg #[.int .i64 0, .string ⟨#[]⟩, .int .i64 3], .agg #[.int .i64 0, .string ⟨#[]⟩, .int .i64 (ao : Nat)]] w1 fun e w' => e = .returned (.bool true) ∧ Below w1.heap.size w1 w')) (h3 : ((3 : Int) = (ao : Int)) = False)
    (hQ : ∀ (A : Act) (w : World), A.defers = a0.defers → A.tmps.size = 118 → A.tmps.getD 6 undef = .bool true → Below w0.heap.size w0 w → Q .normal A w) :
    Code.wp Tryd.prog ((Tryd.f6.body.bind (regionOf 5)).getD .skip) Q a0 W := by
  conv => arg 2; whnf
  (try simp only [List.append_eq, List.cons_append, List.nil_append])
  refine wp_region_plan (by kernel_rfl) (by kernel_rfl) (by kernel_rfl) (by rw [hsz]; kernel_rfl) (fun w => Below w0.heap.size w0 w ∧ Below W.heap.size W w) (fun w w' => Below w.heap.size w w') (fun i w v => ((EwSp ga gb gc g1 gs bi bo bn ci co cn xi xo xn yi yo yn zi zo zn vi vo vn ui uo un ti to tn ao).getD i .any).holds w v) ⟨bdr hb0, bdr (Below.refl _ _)⟩ (fun w w' j v hb h => Sp.mono _ hb h) ?_ ?_ ?_
  · intro i w v hn h
    have hge := gpAll_ge (by kernel_rfl) hn
    have e : (EwSp ga gb gc g1 gs bi bo bn ci co cn xi xo xn yi yo yn zi zo zn vi vo vn ui uo un ti to tn ao).getD i .any = .any := by rw [List.getD_eq_getElem?_getD, List.getElem?_eq_none (by exact hge)]; rfl
    rw [e]
    trivial
  · intro i o ho a w hI hk hd
    have hi : i < 87 := (Array.getElem?_eq_some_iff.1 ho).1
    have h3 : a.tmps.getD 3 undef = .pointer (some ⟨ga, 0, none⟩) := (hk.2.2 3 (gpFree_ne (by kernel_rfl))).trans f3
    have h4 : a.tmps.getD 4 undef = .pointer (some ⟨gb, 0, none⟩) := (hk.2.2 4 (gpFree_ne (by kernel_rfl))).trans f4
    have h5 : a.tmps.getD 5 undef = .pointer (some ⟨gc, 0, none⟩) := (hk.2.2 5 (gpFree_ne (by kernel_rfl))).trans f5
    have h7 : a.tmps.getD 7 undef = .pointer (some ⟨g1, 0, none⟩) := (hk.2.2 7 (gpFree_ne (by kernel_rfl))).trans f7
    have h8 : a.tmps.getD 8 undef = .pointer (some ⟨gs, 0, none⟩) := (hk.2.2 8 (gpFree_ne (by kernel_rfl))).trans f8
    have c0 : w.cell? ⟨ga, 0, none⟩ = some (.int .i64 0) := cell_call C0 hI.2
    have c1 : w.cell? ⟨ga, 1, none⟩ = some (.string ⟨#[]⟩) := cell_call C1 hI.2
    have c2 : w.cell? ⟨ga, 2, none⟩ = some (.int .i64 (ao : Nat)) := cell_call C2 hI.2
    have c3 : w.cell? ⟨gb, 0, none⟩ = some (.int .i64 (bi : Nat)) := cell_call C3 hI.2
    have c4 : w.cell? ⟨gb, 1, none⟩ = some (.string (ba' bn)) := cell_call C4 hI.2
    have c5 : w.cell? ⟨gb, 2, none⟩ = some (.int .i64 (bo : Nat)) := cell_call C5 hI.2
    have c6 : w.cell? ⟨gc, 0, none⟩ = some (.int .i64 (ci : Nat)) := cell_call C6 hI.2
    have c7 : w.cell? ⟨gc, 1, none⟩ = some (.string (ba' cn)) := cell_call C7 hI.2
    have c8 : w.cell? ⟨gc, 2, none⟩ = some (.int .i64 (co : Nat)) := cell_call C8 hI.2
    have c9 : w.cell? ⟨g1, 0, none⟩ = some (.int .i64 3) := cell_call C9 hI.2
    have c10 : w.cell? ⟨g1, 1, none⟩ = some (.string ⟨#[]⟩) := cell_call C10 hI.2
    have c11 : w.cell? ⟨g1, 2, none⟩ = some (.int .i64 0) := cell_call C11 hI.2
    have c12 : w.cell? ⟨gs, 0, none⟩ = some (.int .i64 0) := cell_call C12 hI.2
    have c13 : w.cell? ⟨gs, 1, none⟩ = some (.string ⟨#[]⟩) := cell_call C13 hI.2
    have c14 : w.cell? ⟨gs, 2, none⟩ = some (.int .i64 3) := cell_call C14 hI.2
    rcases (by omega : i = 0 ∨ i = 1 ∨ i = 2 ∨ i = 3 ∨ i = 4 ∨ i = 5 ∨ i = 6 ∨ i = 7 ∨ i = 8 ∨ i = 9 ∨ i = 10 ∨ i = 11 ∨ i = 12 ∨ i = 13 ∨ i = 14 ∨ i = 15 ∨ i = 16 ∨ i = 17 ∨ i = 18 ∨ i = 19 ∨ i = 20 ∨ i = 21 ∨ i = 22 ∨ i = 23 ∨ i = 24 ∨ i = 25 ∨ i = 26 ∨ i = 27 ∨ i = 28 ∨ i = 29 ∨ i = 30 ∨ i = 31 ∨ i = 32 ∨ i = 33 ∨ i = 34 ∨ i = 35 ∨ i = 36 ∨ i = 37 ∨ i = 38 ∨ i = 39 ∨ i = 40 ∨ i = 41 ∨ i = 42 ∨ i = 43 ∨ i = 44 ∨ i = 45 ∨ i = 46 ∨ i = 47 ∨ i = 48 ∨ i = 49 ∨ i = 50 ∨ i = 51 ∨ i = 52 ∨ i = 53 ∨ i = 54 ∨ i = 55 ∨ i = 56 ∨ i = 57 ∨ i = 58 ∨ i = 59 ∨ i = 60 ∨ i = 61 ∨ i = 62 ∨ i = 63 ∨ i = 64 ∨ i = 65 ∨ i = 66 ∨ i = 67 ∨ i = 68 ∨ i = 69 ∨ i = 70 ∨ i = 71 ∨ i = 72 ∨ i = 73 ∨ i = 74 ∨ i = 75 ∨ i = 76 ∨ i = 77 ∨ i = 78 ∨ i = 79 ∨ i = 80 ∨ i = 81 ∨ i = 82 ∨ i = 83 ∨ i = 84 ∨ i = 85 ∨ i = 86) with rfl | rfl | rfl | rfl | rfl | rfl | rfl | rfl | rfl | rfl | rfl | rfl | rfl | rfl | rfl | rfl | rfl | rfl | rfl | rfl | rfl | rfl | rfl | rfl | rfl | rfl | rfl | rfl | rfl | rfl | rfl | rfl | rfl | rfl | rfl | rfl | rfl | rfl | rfl | rfl | rfl | rfl | rfl | rfl | rfl | rfl | rfl | rfl | rfl | rfl | rfl | rfl | rfl | rfl | rfl | rfl | rfl | rfl | rfl | rfl | rfl | rfl | rfl | rfl | rfl | rfl | rfl | rfl | rfl | rfl | rfl | rfl | rfl | rfl | rfl | rfl | rfl | rfl | rfl | rfl | rfl | rfl | rfl | rfl | rfl | rfl | rfl
    · simp only [List.getElem?_toArray, List.getElem?_cons_zero, Option.some.injEq] at ho
      subst ho
      rw [if_pos (gp_none rfl)]
      intro K hK
      go_simp
      exact hK _ _ (Below.refl _ _) hI rfl
    · simp only [List.getElem?_toArray, List.getElem?_cons_zero, List.getElem?_cons_succ, Option.some.injEq] at ho
      subst ho
      rw [if_pos (gp_none rfl)]
      intro K hK
      go_simp
      exact hK _ _ (Below.refl _ _) hI rfl
    · simp only [List.getElem?_toArray, List.getElem?_cons_zero, List.getElem?_cons_succ, Option.some.injEq] at ho
      subst ho
      have h32 : a.tmps.getD 32 undef = .agg #[.int .i64 0, .string ⟨#[]⟩, .int .i64 (ao : Nat)] := hd ⟨0, .data⟩ (by simp) rfl
      have k32 := tmp' h32
      have h33 : a.tmps.getD 33 undef = .agg #[.int .i64 (bi : Nat), .string (ba' bn), .int .i64 (bo : Nat)] := hd ⟨1, .data⟩ (by simp) rfl
      have k33 := tmp' h33
      rw [if_pos (gp_none rfl)]
      intro K hK
      go_simp
      exact hK _ _ (ba (Below.refl _ _)) ⟨ba hI.1, ba hI.2⟩ ⟨_, rfl, by simp, row2_new _ _ _⟩
    · simp only [List.getElem?_toArray, List.getElem?_cons_zero, List.getElem?_cons_succ, Option.some.injEq] at ho
      subst ho
      obtain ⟨sg, hsq, hsg, hrow⟩ : SL w [⟨⟨0, []⟩, ao⟩, ⟨⟨bi, bn⟩, bo⟩] 2 (a.tmps.getD 34 undef) := hd ⟨2, .data⟩ (by simp) rfl
      rw [if_pos (gp_none rfl)]
      intro K hK
      go_simp
      go_at_call 19
      refine (Eab.out _ _ hI.1 hsg hrow).mono ?_
      rintro e w' ⟨rfl, hb⟩
      exact hK _ _ hb ⟨bt hI.1 hb, bt hI.2 hb⟩ rfl
    · simp only [List.getElem?_toArray, List.getElem?_cons_zero, List.getElem?_cons_succ, Option.some.injEq] at ho
      subst ho
      rw [if_pos (gp_none rfl)]
      intro K hK
      go_simp
      exact hK _ _ (Below.refl _ _) hI rfl
    · simp only [List.getElem?_toArray, List.getElem?_cons_zero, List.getElem?_cons_succ, Option.some.injEq] at ho
      subst ho
      rw [if_pos (gp_none rfl)]
      intro K hK
      go_simp
      exact hK _ _ (Below.refl _ _) hI rfl
    · simp only [List.getElem?_toArray, List.getElem?_cons_zero, List.getElem?_cons_succ, Option.some.injEq] at ho
      subst ho
      have h36 : a.tmps.getD 36 undef = .agg #[.int .i64 (bi : Nat), .string (ba' bn), .int .i64 (bo : Nat)] := hd ⟨4, .data⟩ (by simp) rfl
      have k36 := tmp' h36
      have h37 : a.tmps.getD 37 undef = .agg #[.int .i64 0, .string ⟨#[]⟩, .int .i64 (ao : Nat)] := hd ⟨5, .data⟩ (by simp) rfl
      have k37 := tmp' h37
      rw [if_pos (gp_none rfl)]
      intro K hK
      go_simp
      exact hK _ _ (ba (Below.refl _ _)) ⟨ba hI.1, ba hI.2⟩ ⟨_, rfl, by simp, row2_new _ _ _⟩
    · simp only [List.getElem?_toArray, List.getElem?_cons_zero, List.getElem?_cons_succ, Option.some.injEq] at ho
      subst ho
      obtain ⟨sg, hsq, hsg, hrow⟩ : SL w [⟨⟨bi, bn⟩, bo⟩, ⟨⟨0, []⟩, ao⟩] 2 (a.tmps.getD 38 undef) := hd ⟨6, .data⟩ (by simp) rfl
      rw [if_pos (gp_none rfl)]
      intro K hK
      go_simp
      go_at_call 19
      refine (Eba.out _ _ hI.1 hsg hrow).mono ?_
      rintro e w' ⟨rfl, hb⟩
      exact hK _ _ hb ⟨bt hI.1 hb, bt hI.2 hb⟩ rfl
    · simp only [List.getElem?_toArray, List.getElem?_cons_zero, List.getElem?_cons_succ, Option.some.injEq] at ho
      subst ho
      have h35 : a.tmps.getD 35 undef = .agg #[.int .i64 (xi : Nat), .string (ba' xn), .int .i64 (xo : Nat)] := hd ⟨3, .data⟩ (by simp) rfl
      have h39 : a.tmps.getD 39 undef = .agg #[.int .i64 (xi : Nat), .string (ba' xn), .int .i64 (xo : Nat)] := hd ⟨7, .data⟩ (by simp) rfl
      rw [if_pos (gp_none rfl)]
      intro K hK
      go_simp
      exact hK _ _ (Below.refl _ _) hI rfl
    · simp only [List.getElem?_toArray, List.getElem?_cons_zero, List.getElem?_cons_succ, Option.some.injEq] at ho
      subst ho
      have h40 : a.tmps.getD 40 undef = .bool true := hd ⟨8, .data⟩ (by simp) rfl
      rw [if_pos (gp_none rfl)]
      intro K hK
      go_simp
      exact hK _ _ (Below.refl _ _) hI rfl
    · simp only [List.getElem?_toArray, List.getElem?_cons_zero, List.getElem?_cons_succ, Option.some.injEq] at ho
      subst ho
      have h41 : a.tmps.getD 41 undef = .bool true := hd ⟨9, .guard⟩ (by simp) rfl
      have hgv : gpVal _ a 9 = .bool true := hd ⟨9, .guard⟩ (by simp) rfl
      rw [if_pos (by rw [gp_some rfl hgv]; decide)]
      clear hgv
      intro K hK
      go_simp
      exact hK _ _ (Below.refl _ _) hI rfl
    · simp only [List.getElem?_toArray, List.getElem?_cons_zero, List.getElem?_cons_succ, Option.some.injEq] at ho
      subst ho
      have h41 : a.tmps.getD 41 undef = .bool true := hd ⟨9, .guard⟩ (by simp) rfl
      have hgv : gpVal _ a 9 = .bool true := hd ⟨9, .guard⟩ (by simp) rfl
      rw [if_pos (by rw [gp_some rfl hgv]; decide)]
      clear hgv
      intro K hK
      go_simp
      exact hK _ _ (Below.refl _ _) hI rfl
    · simp only [List.getElem?_toArray, List.getElem?_cons_zero, List.getElem?_cons_succ, Option.some.injEq] at ho
      subst ho
      have h42 : a.tmps.getD 42 undef = .agg #[.int .i64 0, .string ⟨#[]⟩, .int .i64 (ao : Nat)] := hd ⟨10, .data⟩ (by simp) rfl
      have k42 := tmp' h42
      have h43 : a.tmps.getD 43 undef = .agg #[.int .i64 (bi : Nat), .string (ba' bn), .int .i64 (bo : Nat)] := hd ⟨11, .data⟩ (by simp) rfl
      have k43 := tmp' h43
      have h41 : a.tmps.getD 41 undef = .bool true := hd ⟨9, .guard⟩ (by simp) rfl
      have k41 := tmp' h41
      have hgv : gpVal _ a 9 = .bool true := hd ⟨9, .guard⟩ (by simp) rfl
      rw [if_pos (by rw [gp_some rfl hgv]; decide)]
      clear hgv
      intro K hK
      go_simp
      exact hK _ _ (ba (Below.refl _ _)) ⟨ba hI.1, ba hI.2⟩ ⟨_, rfl, by simp, row2_new _ _ _⟩
    · simp only [List.getElem?_toArray, List.getElem?_cons_zero, List.getElem?_cons_succ, Option.some.injEq] at ho
      subst ho
      obtain ⟨sg, hsq, hsg, hrow⟩ : SL w [⟨⟨0, []⟩, ao⟩, ⟨⟨bi, bn⟩, bo⟩] 2 (a.tmps.getD 44 undef) := hd ⟨12, .data⟩ (by simp) rfl
      have h41 : a.tmps.getD 41 undef = .bool true := hd ⟨9, .guard⟩ (by simp) rfl
      have hgv : gpVal _ a 9 = .bool true := hd ⟨9, .guard⟩ (by simp) rfl
      rw [if_pos (by rw [gp_some rfl hgv]; decide)]
      clear hgv
      intro K hK
      go_simp
      go_at_call 20
      refine (Jab.out _ _ hI.1 hsg hrow).mono ?_
      rintro e w' ⟨rfl, hb⟩
      exact hK _ _ hb ⟨bt hI.1 hb, bt hI.2 hb⟩ rfl
    · simp only [List.getElem?_toArray, List.getElem?_cons_zero, List.getElem?_cons_succ, Option.some.injEq] at ho
      subst ho
      have h41 : a.tmps.getD 41 undef = .bool true := hd ⟨9, .guard⟩ (by simp) rfl
      have hgv : gpVal _ a 9 = .bool true := hd ⟨9, .guard⟩ (by simp) rfl
      rw [if_pos (by rw [gp_some rfl hgv]; decide)]
      clear hgv
      intro K hK
      go_simp
      exact hK _ _ (Below.refl _ _) hI rfl
    · simp only [List.getElem?_toArray, List.getElem?_cons_zero, List.getElem?_cons_succ, Option.some.injEq] at ho
      subst ho
      have h41 : a.tmps.getD 41 undef = .bool true := hd ⟨9, .guard⟩ (by simp) rfl
      have hgv : gpVal _ a 9 = .bool true := hd ⟨9, .guard⟩ (by simp) rfl
      rw [if_pos (by rw [gp_some rfl hgv]; decide)]
      clear hgv
      intro K hK
      go_simp
      exact hK _ _ (Below.refl _ _) hI rfl
    · simp only [List.getElem?_toArray, List.getElem?_cons_zero, List.getElem?_cons_succ, Option.some.injEq] at ho
      subst ho
      have h46 : a.tmps.getD 46 undef = .agg #[.int .i64 (bi : Nat), .string (ba' bn), .int .i64 (bo : Nat)] := hd ⟨14, .data⟩ (by simp) rfl
      have k46 := tmp' h46
      have h47 : a.tmps.getD 47 undef = .agg #[.int .i64 0, .string ⟨#[]⟩, .int .i64 (ao : Nat)] := hd ⟨15, .data⟩ (by simp) rfl
      have k47 := tmp' h47
      have h41 : a.tmps.getD 41 undef = .bool true := hd ⟨9, .guard⟩ (by simp) rfl
      have k41 := tmp' h41
      have hgv : gpVal _ a 9 = .bool true := hd ⟨9, .guard⟩ (by simp) rfl
      rw [if_pos (by rw [gp_some rfl hgv]; decide)]
      clear hgv
      intro K hK
      go_simp
      exact hK _ _ (ba (Below.refl _ _)) ⟨ba hI.1, ba hI.2⟩ ⟨_, rfl, by simp, row2_new _ _ _⟩
    · simp only [List.getElem?_toArray, List.getElem?_cons_zero, List.getElem?_cons_succ, Option.some.injEq] at ho
      subst ho
      obtain ⟨sg, hsq, hsg, hrow⟩ : SL w [⟨⟨bi, bn⟩, bo⟩, ⟨⟨0, []⟩, ao⟩] 2 (a.tmps.getD 48 undef) := hd ⟨16, .data⟩ (by simp) rfl
      have h41 : a.tmps.getD 41 undef = .bool true := hd ⟨9, .guard⟩ (by simp) rfl
      have hgv : gpVal _ a 9 = .bool true := hd ⟨9, .guard⟩ (by simp) rfl
      rw [if_pos (by rw [gp_some rfl hgv]; decide)]
      clear hgv
      intro K hK
      go_simp
      go_at_call 20
      refine (Jba.out _ _ hI.1 hsg hrow).mono ?_
      rintro e w' ⟨rfl, hb⟩
      exact hK _ _ hb ⟨bt hI.1 hb, bt hI.2 hb⟩ rfl
    · simp only [List.getElem?_toArray, List.getElem?_cons_zero, List.getElem?_cons_succ, Option.some.injEq] at ho
      subst ho
      have h45 : a.tmps.getD 45 undef = .agg #[.int .i64 (yi : Nat), .string (ba' yn), .int .i64 (yo : Nat)] := hd ⟨13, .data⟩ (by simp) rfl
      have h49 : a.tmps.getD 49 undef = .agg #[.int .i64 (yi : Nat), .string (ba' yn), .int .i64 (yo : Nat)] := hd ⟨17, .data⟩ (by simp) rfl
      have h41 : a.tmps.getD 41 undef = .bool true := hd ⟨9, .guard⟩ (by simp) rfl
      have hgv : gpVal _ a 9 = .bool true := hd ⟨9, .guard⟩ (by simp) rfl
      rw [if_pos (by rw [gp_some rfl hgv]; decide)]
      clear hgv
      intro K hK
      go_simp
      exact hK _ _ (Below.refl _ _) hI rfl
    · simp only [List.getElem?_toArray, List.getElem?_cons_zero, List.getElem?_cons_succ, Option.some.injEq] at ho
      subst ho
      have h41 : a.tmps.getD 41 undef = .bool true := hd ⟨9, .data⟩ (by simp) rfl
      have h50 : a.tmps.getD 50 undef = .bool true := hd ⟨18, .data⟩ (by simp) rfl
      rw [if_pos (gp_none rfl)]
      intro K hK
      go_simp
      exact hK _ _ (Below.refl _ _) hI rfl
    · simp only [List.getElem?_toArray, List.getElem?_cons_zero, List.getElem?_cons_succ, Option.some.injEq] at ho
      subst ho
      have h51 : a.tmps.getD 51 undef = .bool true := hd ⟨19, .data⟩ (by simp) rfl
      rw [if_pos (gp_none rfl)]
      intro K hK
      go_simp
      exact hK _ _ (Below.refl _ _) hI rfl
    · simp only [List.getElem?_toArray, List.getElem?_cons_zero, List.getElem?_cons_succ, Option.some.injEq] at ho
      subst ho
      have h52 : a.tmps.getD 52 undef = .bool true := hd ⟨20, .guard⟩ (by simp) rfl
      have hgv : gpVal _ a 20 = .bool true := hd ⟨20, .guard⟩ (by simp) rfl
      rw [if_pos (by rw [gp_some rfl hgv]; decide)]
      clear hgv
      intro K hK
      go_simp
      exact hK _ _ (Below.refl _ _) hI rfl
    · simp only [List.getElem?_toArray, List.getElem?_cons_zero, List.getElem?_cons_succ, Option.some.injEq] at ho
      subst ho
      have h52 : a.tmps.getD 52 undef = .bool true := hd ⟨20, .guard⟩ (by simp) rfl
      have hgv : gpVal _ a 20 = .bool true := hd ⟨20, .guard⟩ (by simp) rfl
      rw [if_pos (by rw [gp_some rfl hgv]; decide)]
      clear hgv
      intro K hK
      go_simp
      exact hK _ _ (Below.refl _ _) hI rfl
    · simp only [List.getElem?_toArray, List.getElem?_cons_zero, List.getElem?_cons_succ, Option.some.injEq] at ho
      subst ho
      have h53 : a.tmps.getD 53 undef = .agg #[.int .i64 0, .string ⟨#[]⟩, .int .i64 (ao : Nat)] := hd ⟨21, .data⟩ (by simp) rfl
      have k53 := tmp' h53
      have h54 : a.tmps.getD 54 undef = .agg #[.int .i64 (bi : Nat), .string (ba' bn), .int .i64 (bo : Nat)] := hd ⟨22, .data⟩ (by simp) rfl
      have k54 := tmp' h54
      have h52 : a.tmps.getD 52 undef = .bool true := hd ⟨20, .guard⟩ (by simp) rfl
      have k52 := tmp' h52
      have hgv : gpVal _ a 20 = .bool true := hd ⟨20, .guard⟩ (by simp) rfl
      rw [if_pos (by rw [gp_some rfl hgv]; decide)]
      clear hgv
      intro K hK
      go_simp
      exact hK _ _ (ba (Below.refl _ _)) ⟨ba hI.1, ba hI.2⟩ ⟨_, rfl, by simp, row2_new _ _ _⟩
    · simp only [List.getElem?_toArray, List.getElem?_cons_zero, List.getElem?_cons_succ, Option.some.injEq] at ho
      subst ho
      obtain ⟨sg, hsq, hsg, hrow⟩ : SL w [⟨⟨0, []⟩, ao⟩, ⟨⟨bi, bn⟩, bo⟩] 2 (a.tmps.getD 55 undef) := hd ⟨23, .data⟩ (by simp) rfl
      have h52 : a.tmps.getD 52 undef = .bool true := hd ⟨20, .guard⟩ (by simp) rfl
      have hgv : gpVal _ a 20 = .bool true := hd ⟨20, .guard⟩ (by simp) rfl
      rw [if_pos (by rw [gp_some rfl hgv]; decide)]
      clear hgv
      intro K hK
      go_simp
      go_at_call 19
      refine (Eab.out _ _ hI.1 hsg hrow).mono ?_
      rintro e w' ⟨rfl, hb⟩
      exact hK _ _ hb ⟨bt hI.1 hb, bt hI.2 hb⟩ rfl
    · simp only [List.getElem?_toArray, List.getElem?_cons_zero, List.getElem?_cons_succ, Option.some.injEq] at ho
      subst ho
      have h52 : a.tmps.getD 52 undef = .bool true := hd ⟨20, .guard⟩ (by simp) rfl
      have hgv : gpVal _ a 20 = .bool true := hd ⟨20, .guard⟩ (by simp) rfl
      rw [if_pos (by rw [gp_some rfl hgv]; decide)]
      clear hgv
      intro K hK
      go_simp
      exact hK _ _ (Below.refl _ _) hI rfl
    · simp only [List.getElem?_toArray, List.getElem?_cons_zero, List.getElem?_cons_succ, Option.some.injEq] at ho
      subst ho
      have h56 : a.tmps.getD 56 undef = .agg #[.int .i64 (xi : Nat), .string (ba' xn), .int .i64 (xo : Nat)] := hd ⟨24, .data⟩ (by simp) rfl
      have k56 := tmp' h56
      have h57 : a.tmps.getD 57 undef = .agg #[.int .i64 (ci : Nat), .string (ba' cn), .int .i64 (co : Nat)] := hd ⟨25, .data⟩ (by simp) rfl
      have k57 := tmp' h57
      have h52 : a.tmps.getD 52 undef = .bool true := hd ⟨20, .guard⟩ (by simp) rfl
      have k52 := tmp' h52
      have hgv : gpVal _ a 20 = .bool true := hd ⟨20, .guard⟩ (by simp) rfl
      rw [if_pos (by rw [gp_some rfl hgv]; decide)]
      clear hgv
      intro K hK
      go_simp
      exact hK _ _ (ba (Below.refl _ _)) ⟨ba hI.1, ba hI.2⟩ ⟨_, rfl, by simp, row2_new _ _ _⟩
    · simp only [List.getElem?_toArray, List.getElem?_cons_zero, List.getElem?_cons_succ, Option.some.injEq] at ho
      subst ho
      obtain ⟨sg, hsq, hsg, hrow⟩ : SL w [⟨⟨xi, xn⟩, xo⟩, ⟨⟨ci, cn⟩, co⟩] 2 (a.tmps.getD 58 undef) := hd ⟨26, .data⟩ (by simp) rfl
      have h52 : a.tmps.getD 52 undef = .bool true := hd ⟨20, .guard⟩ (by simp) rfl
      have hgv : gpVal _ a 20 = .bool true := hd ⟨20, .guard⟩ (by simp) rfl
      rw [if_pos (by rw [gp_some rfl hgv]; decide)]
      clear hgv
      intro K hK
      go_simp
      go_at_call 19
      refine (Exc.out _ _ hI.1 hsg hrow).mono ?_
      rintro e w' ⟨rfl, hb⟩
      exact hK _ _ hb ⟨bt hI.1 hb, bt hI.2 hb⟩ rfl
    · simp only [List.getElem?_toArray, List.getElem?_cons_zero, List.getElem?_cons_succ, Option.some.injEq] at ho
      subst ho
      have h52 : a.tmps.getD 52 undef = .bool true := hd ⟨20, .guard⟩ (by simp) rfl
      have hgv : gpVal _ a 20 = .bool true := hd ⟨20, .guard⟩ (by simp) rfl
      rw [if_pos (by rw [gp_some rfl hgv]; decide)]
      clear hgv
      intro K hK
      go_simp
      exact hK _ _ (Below.refl _ _) hI rfl
    · simp only [List.getElem?_toArray, List.getElem?_cons_zero, List.getElem?_cons_succ, Option.some.injEq] at ho
      subst ho
      have h52 : a.tmps.getD 52 undef = .bool true := hd ⟨20, .guard⟩ (by simp) rfl
      have hgv : gpVal _ a 20 = .bool true := hd ⟨20, .guard⟩ (by simp) rfl
      rw [if_pos (by rw [gp_some rfl hgv]; decide)]
      clear hgv
      intro K hK
      go_simp
      exact hK _ _ (Below.refl _ _) hI rfl
    · simp only [List.getElem?_toArray, List.getElem?_cons_zero, List.getElem?_cons_succ, Option.some.injEq] at ho
      subst ho
      have h52 : a.tmps.getD 52 undef = .bool true := hd ⟨20, .guard⟩ (by simp) rfl
      have hgv : gpVal _ a 20 = .bool true := hd ⟨20, .guard⟩ (by simp) rfl
      rw [if_pos (by rw [gp_some rfl hgv]; decide)]
      clear hgv
      intro K hK
      go_simp
      exact hK _ _ (Below.refl _ _) hI rfl
    · simp only [List.getElem?_toArray, List.getElem?_cons_zero, List.getElem?_cons_succ, Option.some.injEq] at ho
      subst ho
      have h61 : a.tmps.getD 61 undef = .agg #[.int .i64 (bi : Nat), .string (ba' bn), .int .i64 (bo : Nat)] := hd ⟨29, .data⟩ (by simp) rfl
      have k61 := tmp' h61
      have h62 : a.tmps.getD 62 undef = .agg #[.int .i64 (ci : Nat), .string (ba' cn), .int .i64 (co : Nat)] := hd ⟨30, .data⟩ (by simp) rfl
      have k62 := tmp' h62
      have h52 : a.tmps.getD 52 undef = .bool true := hd ⟨20, .guard⟩ (by simp) rfl
      have k52 := tmp' h52
      have hgv : gpVal _ a 20 = .bool true := hd ⟨20, .guard⟩ (by simp) rfl
      rw [if_pos (by rw [gp_some rfl hgv]; decide)]
      clear hgv
      intro K hK
      go_simp
      exact hK _ _ (ba (Below.refl _ _)) ⟨ba hI.1, ba hI.2⟩ ⟨_, rfl, by simp, row2_new _ _ _⟩
    · simp only [List.getElem?_toArray, List.getElem?_cons_zero, List.getElem?_cons_succ, Option.some.injEq] at ho
      subst ho
      obtain ⟨sg, hsq, hsg, hrow⟩ : SL w [⟨⟨bi, bn⟩, bo⟩, ⟨⟨ci, cn⟩, co⟩] 2 (a.tmps.getD 63 undef) := hd ⟨31, .data⟩ (by simp) rfl
      have h52 : a.tmps.getD 52 undef = .bool true := hd ⟨20, .guard⟩ (by simp) rfl
      have hgv : gpVal _ a 20 = .bool true := hd ⟨20, .guard⟩ (by simp) rfl
      rw [if_pos (by rw [gp_some rfl hgv]; decide)]
      clear hgv
      intro K hK
      go_simp
      go_at_call 19
      refine (Ebc.out _ _ hI.1 hsg hrow).mono ?_
      rintro e w' ⟨rfl, hb⟩
      exact hK _ _ hb ⟨bt hI.1 hb, bt hI.2 hb⟩ rfl
    · simp only [List.getElem?_toArray, List.getElem?_cons_zero, List.getElem?_cons_succ, Option.some.injEq] at ho
      subst ho
      have h60 : a.tmps.getD 60 undef = .agg #[.int .i64 0, .string ⟨#[]⟩, .int .i64 (ao : Nat)] := hd ⟨28, .data⟩ (by simp) rfl
      have k60 := tmp' h60
      have h64 : a.tmps.getD 64 undef = .agg #[.int .i64 (vi : Nat), .string (ba' vn), .int .i64 (vo : Nat)] := hd ⟨32, .data⟩ (by simp) rfl
      have k64 := tmp' h64
      have h52 : a.tmps.getD 52 undef = .bool true := hd ⟨20, .guard⟩ (by simp) rfl
      have k52 := tmp' h52
      have hgv : gpVal _ a 20 = .bool true := hd ⟨20, .guard⟩ (by simp) rfl
      rw [if_pos (by rw [gp_some rfl hgv]; decide)]
      clear hgv
      intro K hK
      go_simp
      exact hK _ _ (ba (Below.refl _ _)) ⟨ba hI.1, ba hI.2⟩ ⟨_, rfl, by simp, row2_new _ _ _⟩
    · simp only [List.getElem?_toArray, List.getElem?_cons_zero, List.getElem?_cons_succ, Option.some.injEq] at ho
      subst ho
      obtain ⟨sg, hsq, hsg, hrow⟩ : SL w [⟨⟨0, []⟩, ao⟩, ⟨⟨vi, vn⟩, vo⟩] 2 (a.tmps.getD 65 undef) := hd ⟨33, .data⟩ (by simp) rfl
      have h52 : a.tmps.getD 52 undef = .bool true := hd ⟨20, .guard⟩ (by simp) rfl
      have hgv : gpVal _ a 20 = .bool true := hd ⟨20, .guard⟩ (by simp) rfl
      rw [if_pos (by rw [gp_some rfl hgv]; decide)]
      clear hgv
      intro K hK
      go_simp
      go_at_call 19
      refine (Eav.out _ _ hI.1 hsg hrow).mono ?_
      rintro e w' ⟨rfl, hb⟩
      exact hK _ _ hb ⟨bt hI.1 hb, bt hI.2 hb⟩ rfl
    · simp only [List.getElem?_toArray, List.getElem?_cons_zero, List.getElem?_cons_succ, Option.some.injEq] at ho
      subst ho
      have h59 : a.tmps.getD 59 undef = .agg #[.int .i64 (zi : Nat), .string (ba' zn), .int .i64 (zo : Nat)] := hd ⟨27, .data⟩ (by simp) rfl
      have h66 : a.tmps.getD 66 undef = .agg #[.int .i64 (zi : Nat), .string (ba' zn), .int .i64 (zo : Nat)] := hd ⟨34, .data⟩ (by simp) rfl
      have h52 : a.tmps.getD 52 undef = .bool true := hd ⟨20, .guard⟩ (by simp) rfl
      have hgv : gpVal _ a 20 = .bool true := hd ⟨20, .guard⟩ (by simp) rfl
      rw [if_pos (by rw [gp_some rfl hgv]; decide)]
      clear hgv
      intro K hK
      go_simp
      exact hK _ _ (Below.refl _ _) hI rfl
    · simp only [List.getElem?_toArray, List.getElem?_cons_zero, List.getElem?_cons_succ, Option.some.injEq] at ho
      subst ho
      have h52 : a.tmps.getD 52 undef = .bool true := hd ⟨20, .data⟩ (by simp) rfl
      have h67 : a.tmps.getD 67 undef = .bool true := hd ⟨35, .data⟩ (by simp) rfl
      rw [if_pos (gp_none rfl)]
      intro K hK
      go_simp
      exact hK _ _ (Below.refl _ _) hI rfl
    · simp only [List.getElem?_toArray, List.getElem?_cons_zero, List.getElem?_cons_succ, Option.some.injEq] at ho
      subst ho
      have h68 : a.tmps.getD 68 undef = .bool true := hd ⟨36, .data⟩ (by simp) rfl
      rw [if_pos (gp_none rfl)]
      intro K hK
      go_simp
      exact hK _ _ (Below.refl _ _) hI rfl
    · simp only [List.getElem?_toArray, List.getElem?_cons_zero, List.getElem?_cons_succ, Option.some.injEq] at ho
      subst ho
      have h69 : a.tmps.getD 69 undef = .bool true := hd ⟨37, .guard⟩ (by simp) rfl
      have hgv : gpVal _ a 37 = .bool true := hd ⟨37, .guard⟩ (by simp) rfl
      rw [if_pos (by rw [gp_some rfl hgv]; decide)]
      clear hgv
      intro K hK
      go_simp
      exact hK _ _ (Below.refl _ _) hI rfl
    · simp only [List.getElem?_toArray, List.getElem?_cons_zero, List.getElem?_cons_succ, Option.some.injEq] at ho
      subst ho
      have h69 : a.tmps.getD 69 undef = .bool true := hd ⟨37, .guard⟩ (by simp) rfl
      have hgv : gpVal _ a 37 = .bool true := hd ⟨37, .guard⟩ (by simp) rfl
      rw [if_pos (by rw [gp_some rfl hgv]; decide)]
      clear hgv
      intro K hK
      go_simp
      exact hK _ _ (Below.refl _ _) hI rfl
    · simp only [List.getElem?_toArray, List.getElem?_cons_zero, List.getElem?_cons_succ, Option.some.injEq] at ho
      subst ho
      have h70 : a.tmps.getD 70 undef = .agg #[.int .i64 0, .string ⟨#[]⟩, .int .i64 (ao : Nat)] := hd ⟨38, .data⟩ (by simp) rfl
      have k70 := tmp' h70
      have h71 : a.tmps.getD 71 undef = .agg #[.int .i64 (bi : Nat), .string (ba' bn), .int .i64 (bo : Nat)] := hd ⟨39, .data⟩ (by simp) rfl
      have k71 := tmp' h71
      have h69 : a.tmps.getD 69 undef = .bool true := hd ⟨37, .guard⟩ (by simp) rfl
      have k69 := tmp' h69
      have hgv : gpVal _ a 37 = .bool true := hd ⟨37, .guard⟩ (by simp) rfl
      rw [if_pos (by rw [gp_some rfl hgv]; decide)]
      clear hgv
      intro K hK
      go_simp
      exact hK _ _ (ba (Below.refl _ _)) ⟨ba hI.1, ba hI.2⟩ ⟨_, rfl, by simp, row2_new _ _ _⟩
    · simp only [List.getElem?_toArray, List.getElem?_cons_zero, List.getElem?_cons_succ, Option.some.injEq] at ho
      subst ho
      obtain ⟨sg, hsq, hsg, hrow⟩ : SL w [⟨⟨0, []⟩, ao⟩, ⟨⟨bi, bn⟩, bo⟩] 2 (a.tmps.getD 72 undef) := hd ⟨40, .data⟩ (by simp) rfl
      have h69 : a.tmps.getD 69 undef = .bool true := hd ⟨37, .guard⟩ (by simp) rfl
      have hgv : gpVal _ a 37 = .bool true := hd ⟨37, .guard⟩ (by simp) rfl
      rw [if_pos (by rw [gp_some rfl hgv]; decide)]
      clear hgv
      intro K hK
      go_simp
      go_at_call 20
      refine (Jab.out _ _ hI.1 hsg hrow).mono ?_
      rintro e w' ⟨rfl, hb⟩
      exact hK _ _ hb ⟨bt hI.1 hb, bt hI.2 hb⟩ rfl
    · simp only [List.getElem?_toArray, List.getElem?_cons_zero, List.getElem?_cons_succ, Option.some.injEq] at ho
      subst ho
      have h69 : a.tmps.getD 69 undef = .bool true := hd ⟨37, .guard⟩ (by simp) rfl
      have hgv : gpVal _ a 37 = .bool true := hd ⟨37, .guard⟩ (by simp) rfl
      rw [if_pos (by rw [gp_some rfl hgv]; decide)]
      clear hgv
      intro K hK
      go_simp
      exact hK _ _ (Below.refl _ _) hI rfl
    · simp only [List.getElem?_toArray, List.getElem?_cons_zero, List.getElem?_cons_succ, Option.some.injEq] at ho
      subst ho
      have h73 : a.tmps.getD 73 undef = .agg #[.int .i64 (yi : Nat), .string (ba' yn), .int .i64 (yo : Nat)] := hd ⟨41, .data⟩ (by simp) rfl
      have k73 := tmp' h73
      have h74 : a.tmps.getD 74 undef = .agg #[.int .i64 (ci : Nat), .string (ba' cn), .int .i64 (co : Nat)] := hd ⟨42, .data⟩ (by simp) rfl
      have k74 := tmp' h74
      have h69 : a.tmps.getD 69 undef = .bool true := hd ⟨37, .guard⟩ (by simp) rfl
      have k69 := tmp' h69
      have hgv : gpVal _ a 37 = .bool true := hd ⟨37, .guard⟩ (by simp) rfl
      rw [if_pos (by rw [gp_some rfl hgv]; decide)]
      clear hgv
      intro K hK
      go_simp
      exact hK _ _ (ba (Below.refl _ _)) ⟨ba hI.1, ba hI.2⟩ ⟨_, rfl, by simp, row2_new _ _ _⟩
    · simp only [List.getElem?_toArray, List.getElem?_cons_zero, List.getElem?_cons_succ, Option.some.injEq] at ho
      subst ho
      obtain ⟨sg, hsq, hsg, hrow⟩ : SL w [⟨⟨yi, yn⟩, yo⟩, ⟨⟨ci, cn⟩, co⟩] 2 (a.tmps.getD 75 undef) := hd ⟨43, .data⟩ (by simp) rfl
      have h69 : a.tmps.getD 69 undef = .bool true := hd ⟨37, .guard⟩ (by simp) rfl
      have hgv : gpVal _ a 37 = .bool true := hd ⟨37, .guard⟩ (by simp) rfl
      rw [if_pos (by rw [gp_some rfl hgv]; decide)]
      clear hgv
      intro K hK
      go_simp
      go_at_call 20
      refine (Jyc.out _ _ hI.1 hsg hrow).mono ?_
      rintro e w' ⟨rfl, hb⟩
      exact hK _ _ hb ⟨bt hI.1 hb, bt hI.2 hb⟩ rfl
    · simp only [List.getElem?_toArray, List.getElem?_cons_zero, List.getElem?_cons_succ, Option.some.injEq] at ho
      subst ho
      have h69 : a.tmps.getD 69 undef = .bool true := hd ⟨37, .guard⟩ (by simp) rfl
      have hgv : gpVal _ a 37 = .bool true := hd ⟨37, .guard⟩ (by simp) rfl
      rw [if_pos (by rw [gp_some rfl hgv]; decide)]
      clear hgv
      intro K hK
      go_simp
      exact hK _ _ (Below.refl _ _) hI rfl
    · simp only [List.getElem?_toArray, List.getElem?_cons_zero, List.getElem?_cons_succ, Option.some.injEq] at ho
      subst ho
      have h69 : a.tmps.getD 69 undef = .bool true := hd ⟨37, .guard⟩ (by simp) rfl
      have hgv : gpVal _ a 37 = .bool true := hd ⟨37, .guard⟩ (by simp) rfl
      rw [if_pos (by rw [gp_some rfl hgv]; decide)]
      clear hgv
      intro K hK
      go_simp
      exact hK _ _ (Below.refl _ _) hI rfl
    · simp only [List.getElem?_toArray, List.getElem?_cons_zero, List.getElem?_cons_succ, Option.some.injEq] at ho
      subst ho
      have h69 : a.tmps.getD 69 undef = .bool true := hd ⟨37, .guard⟩ (by simp) rfl
      have hgv : gpVal _ a 37 = .bool true := hd ⟨37, .guard⟩ (by simp) rfl
      rw [if_pos (by rw [gp_some rfl hgv]; decide)]
      clear hgv
      intro K hK
      go_simp
      exact hK _ _ (Below.refl _ _) hI rfl
    · simp only [List.getElem?_toArray, List.getElem?_cons_zero, List.getElem?_cons_succ, Option.some.injEq] at ho
      subst ho
      have h78 : a.tmps.getD 78 undef = .agg #[.int .i64 (bi : Nat), .string (ba' bn), .int .i64 (bo : Nat)] := hd ⟨46, .data⟩ (by simp) rfl
      have k78 := tmp' h78
      have h79 : a.tmps.getD 79 undef = .agg #[.int .i64 (ci : Nat), .string (ba' cn), .int .i64 (co : Nat)] := hd ⟨47, .data⟩ (by simp) rfl
      have k79 := tmp' h79
      have h69 : a.tmps.getD 69 undef = .bool true := hd ⟨37, .guard⟩ (by simp) rfl
      have k69 := tmp' h69
      have hgv : gpVal _ a 37 = .bool true := hd ⟨37, .guard⟩ (by simp) rfl
      rw [if_pos (by rw [gp_some rfl hgv]; decide)]
      clear hgv
      intro K hK
      go_simp
      exact hK _ _ (ba (Below.refl _ _)) ⟨ba hI.1, ba hI.2⟩ ⟨_, rfl, by simp, row2_new _ _ _⟩
    · simp only [List.getElem?_toArray, List.getElem?_cons_zero, List.getElem?_cons_succ, Option.some.injEq] at ho
      subst ho
      obtain ⟨sg, hsq, hsg, hrow⟩ : SL w [⟨⟨bi, bn⟩, bo⟩, ⟨⟨ci, cn⟩, co⟩] 2 (a.tmps.getD 80 undef) := hd ⟨48, .data⟩ (by simp) rfl
      have h69 : a.tmps.getD 69 undef = .bool true := hd ⟨37, .guard⟩ (by simp) rfl
      have hgv : gpVal _ a 37 = .bool true := hd ⟨37, .guard⟩ (by simp) rfl
      rw [if_pos (by rw [gp_some rfl hgv]; decide)]
      clear hgv
      intro K hK
      go_simp
      go_at_call 20
      refine (Jbc.out _ _ hI.1 hsg hrow).mono ?_
      rintro e w' ⟨rfl, hb⟩
      exact hK _ _ hb ⟨bt hI.1 hb, bt hI.2 hb⟩ rfl
    · simp only [List.getElem?_toArray, List.getElem?_cons_zero, List.getElem?_cons_succ, Option.some.injEq] at ho
      subst ho
      have h77 : a.tmps.getD 77 undef = .agg #[.int .i64 0, .string ⟨#[]⟩, .int .i64 (ao : Nat)] := hd ⟨45, .data⟩ (by simp) rfl
      have k77 := tmp' h77
      have h81 : a.tmps.getD 81 undef = .agg #[.int .i64 (ui : Nat), .string (ba' un), .int .i64 (uo : Nat)] := hd ⟨49, .data⟩ (by simp) rfl
      have k81 := tmp' h81
      have h69 : a.tmps.getD 69 undef = .bool true := hd ⟨37, .guard⟩ (by simp) rfl
      have k69 := tmp' h69
      have hgv : gpVal _ a 37 = .bool true := hd ⟨37, .guard⟩ (by simp) rfl
      rw [if_pos (by rw [gp_some rfl hgv]; decide)]
      clear hgv
      intro K hK
      go_simp
      exact hK _ _ (ba (Below.refl _ _)) ⟨ba hI.1, ba hI.2⟩ ⟨_, rfl, by simp, row2_new _ _ _⟩
    · simp only [List.getElem?_toArray, List.getElem?_cons_zero, List.getElem?_cons_succ, Option.some.injEq] at ho
      subst ho
      obtain ⟨sg, hsq, hsg, hrow⟩ : SL w [⟨⟨0, []⟩, ao⟩, ⟨⟨ui, un⟩, uo⟩] 2 (a.tmps.getD 82 undef) := hd ⟨50, .data⟩ (by simp) rfl
      have h69 : a.tmps.getD 69 undef = .bool true := hd ⟨37, .guard⟩ (by simp) rfl
      have hgv : gpVal _ a 37 = .bool true := hd ⟨37, .guard⟩ (by simp) rfl
      rw [if_pos (by rw [gp_some rfl hgv]; decide)]
      clear hgv
      intro K hK
      go_simp
      go_at_call 20
      refine (Jau.out _ _ hI.1 hsg hrow).mono ?_
      rintro e w' ⟨rfl, hb⟩
      exact hK _ _ hb ⟨bt hI.1 hb, bt hI.2 hb⟩ rfl
    · simp only [List.getElem?_toArray, List.getElem?_cons_zero, List.getElem?_cons_succ, Option.some.injEq] at ho
      subst ho
      have h76 : a.tmps.getD 76 undef = .agg #[.int .i64 (ti : Nat), .string (ba' tn), .int .i64 (to : Nat)] := hd ⟨44, .data⟩ (by simp) rfl
      have h83 : a.tmps.getD 83 undef = .agg #[.int .i64 (ti : Nat), .string (ba' tn), .int .i64 (to : Nat)] := hd ⟨51, .data⟩ (by simp) rfl
      have h69 : a.tmps.getD 69 undef = .bool true := hd ⟨37, .guard⟩ (by simp) rfl
      have hgv : gpVal _ a 37 = .bool true := hd ⟨37, .guard⟩ (by simp) rfl
      rw [if_pos (by rw [gp_some rfl hgv]; decide)]
      clear hgv
      intro K hK
      go_simp
      exact hK _ _ (Below.refl _ _) hI rfl
    · simp only [List.getElem?_toArray, List.getElem?_cons_zero, List.getElem?_cons_succ, Option.some.injEq] at ho
      subst ho
      have h69 : a.tmps.getD 69 undef = .bool true := hd ⟨37, .data⟩ (by simp) rfl
      have h84 : a.tmps.getD 84 undef = .bool true := hd ⟨52, .data⟩ (by simp) rfl
      rw [if_pos (gp_none rfl)]
      intro K hK
      go_simp
      exact hK _ _ (Below.refl _ _) hI rfl
    · simp only [List.getElem?_toArray, List.getElem?_cons_zero, List.getElem?_cons_succ, Option.some.injEq] at ho
      subst ho
      have h85 : a.tmps.getD 85 undef = .bool true := hd ⟨53, .data⟩ (by simp) rfl
      rw [if_pos (gp_none rfl)]
      intro K hK
      go_simp
      exact hK _ _ (Below.refl _ _) hI rfl
    · simp only [List.getElem?_toArray, List.getElem?_cons_zero, List.getElem?_cons_succ, Option.some.injEq] at ho
      subst ho
      have h86 : a.tmps.getD 86 undef = .bool true := hd ⟨54, .guard⟩ (by simp) rfl
      have hgv : gpVal _ a 54 = .bool true := hd ⟨54, .guard⟩ (by simp) rfl
      rw [if_pos (by rw [gp_some rfl hgv]; decide)]
      clear hgv
      intro K hK
      go_simp
      exact hK _ _ (Below.refl _ _) hI rfl
    · simp only [List.getElem?_toArray, List.getElem?_cons_zero, List.getElem?_cons_succ, Option.some.injEq] at ho
      subst ho
      have h86 : a.tmps.getD 86 undef = .bool true := hd ⟨54, .guard⟩ (by simp) rfl
      have hgv : gpVal _ a 54 = .bool true := hd ⟨54, .guard⟩ (by simp) rfl
      rw [if_pos (by rw [gp_some rfl hgv]; decide)]
      clear hgv
      intro K hK
      go_simp
      exact hK _ _ (Below.refl _ _) hI rfl
    · simp only [List.getElem?_toArray, List.getElem?_cons_zero, List.getElem?_cons_succ, Option.some.injEq] at ho
      subst ho
      have h87 : a.tmps.getD 87 undef = .agg #[.int .i64 3, .string ⟨#[]⟩, .int .i64 0] := hd ⟨55, .data⟩ (by simp) rfl
      have h88 : a.tmps.getD 88 undef = .agg #[.int .i64 0, .string ⟨#[]⟩, .int .i64 (ao : Nat)] := hd ⟨56, .data⟩ (by simp) rfl
      have h86 : a.tmps.getD 86 undef = .bool true := hd ⟨54, .guard⟩ (by simp) rfl
      have hgv : gpVal _ a 54 = .bool true := hd ⟨54, .guard⟩ (by simp) rfl
      rw [if_pos (by rw [gp_some rfl hgv]; decide)]
      clear hgv
      intro K hK
      go_simp
      go_at_call 24
      refine (Hti.out _ hI.1).mono ?_
      rintro e w' ⟨rfl, hb⟩
      exact hK _ _ hb ⟨bt hI.1 hb, bt hI.2 hb⟩ rfl
    · simp only [List.getElem?_toArray, List.getElem?_cons_zero, List.getElem?_cons_succ, Option.some.injEq] at ho
      subst ho
      have h86 : a.tmps.getD 86 undef = .bool true := hd ⟨54, .guard⟩ (by simp) rfl
      have hgv : gpVal _ a 54 = .bool true := hd ⟨54, .guard⟩ (by simp) rfl
      rw [if_pos (by rw [gp_some rfl hgv]; decide)]
      clear hgv
      intro K hK
      go_simp
      exact hK _ _ (Below.refl _ _) hI rfl
    · simp only [List.getElem?_toArray, List.getElem?_cons_zero, List.getElem?_cons_succ, Option.some.injEq] at ho
      subst ho
      have h89 : a.tmps.getD 89 undef = .agg #[.int .i64 0, .string ⟨#[]⟩, .int .i64 3] := hd ⟨57, .data⟩ (by simp) rfl
      have h90 : a.tmps.getD 90 undef = .agg #[.int .i64 0, .string ⟨#[]⟩, .int .i64 3] := hd ⟨58, .data⟩ (by simp) rfl
      have h86 : a.tmps.getD 86 undef = .bool true := hd ⟨54, .guard⟩ (by simp) rfl
      have hgv : gpVal _ a 54 = .bool true := hd ⟨54, .guard⟩ (by simp) rfl
      rw [if_pos (by rw [gp_some rfl hgv]; decide)]
      clear hgv
      intro K hK
      go_simp
      exact hK _ _ (Below.refl _ _) hI rfl
    · simp only [List.getElem?_toArray, List.getElem?_cons_zero, List.getElem?_cons_succ, Option.some.injEq] at ho
      subst ho
      have h86 : a.tmps.getD 86 undef = .bool true := hd ⟨54, .data⟩ (by simp) rfl
      have h91 : a.tmps.getD 91 undef = .bool true := hd ⟨59, .data⟩ (by simp) rfl
      rw [if_pos (gp_none rfl)]
      intro K hK
      go_simp
      exact hK _ _ (Below.refl _ _) hI rfl
    · simp only [List.getElem?_toArray, List.getElem?_cons_zero, List.getElem?_cons_succ, Option.some.injEq] at ho
      subst ho
      have h92 : a.tmps.getD 92 undef = .bool true := hd ⟨60, .data⟩ (by simp) rfl
      rw [if_pos (gp_none rfl)]
      intro K hK
      go_simp
      exact hK _ _ (Below.refl _ _) hI rfl
    · simp only [List.getElem?_toArray, List.getElem?_cons_zero, List.getElem?_cons_succ, Option.some.injEq] at ho
      subst ho
      have h93 : a.tmps.getD 93 undef = .bool true := hd ⟨61, .guard⟩ (by simp) rfl
      have hgv : gpVal _ a 61 = .bool true := hd ⟨61, .guard⟩ (by simp) rfl
      rw [if_pos (by rw [gp_some rfl hgv]; decide)]
      clear hgv
      intro K hK
      go_simp
      exact hK _ _ (Below.refl _ _) hI rfl
    · simp only [List.getElem?_toArray, List.getElem?_cons_zero, List.getElem?_cons_succ, Option.some.injEq] at ho
      subst ho
      have h93 : a.tmps.getD 93 undef = .bool true := hd ⟨61, .guard⟩ (by simp) rfl
      have hgv : gpVal _ a 61 = .bool true := hd ⟨61, .guard⟩ (by simp) rfl
      rw [if_pos (by rw [gp_some rfl hgv]; decide)]
      clear hgv
      intro K hK
      go_simp
      exact hK _ _ (Below.refl _ _) hI rfl
    · simp only [List.getElem?_toArray, List.getElem?_cons_zero, List.getElem?_cons_succ, Option.some.injEq] at ho
      subst ho
      have h94 : a.tmps.getD 94 undef = .agg #[.int .i64 0, .string ⟨#[]⟩, .int .i64 3] := hd ⟨62, .data⟩ (by simp) rfl
      have h95 : a.tmps.getD 95 undef = .agg #[.int .i64 0, .string ⟨#[]⟩, .int .i64 (ao : Nat)] := hd ⟨63, .data⟩ (by simp) rfl
      have h93 : a.tmps.getD 93 undef = .bool true := hd ⟨61, .guard⟩ (by simp) rfl
      have hgv : gpVal _ a 61 = .bool true := hd ⟨61, .guard⟩ (by simp) rfl
      rw [if_pos (by rw [gp_some rfl hgv]; decide)]
      clear hgv
      intro K hK
      go_simp
      exact hK _ _ (Below.refl _ _) hI rfl
    · simp only [List.getElem?_toArray, List.getElem?_cons_zero, List.getElem?_cons_succ, Option.some.injEq] at ho
      subst ho
      have h96 : a.tmps.getD 96 undef = .bool false := hd ⟨64, .data⟩ (by simp) rfl
      have h93 : a.tmps.getD 93 undef = .bool true := hd ⟨61, .guard⟩ (by simp) rfl
      have hgv : gpVal _ a 61 = .bool true := hd ⟨61, .guard⟩ (by simp) rfl
      rw [if_pos (by rw [gp_some rfl hgv]; decide)]
      clear hgv
      intro K hK
      go_simp
      exact hK _ _ (Below.refl _ _) hI rfl
    · simp only [List.getElem?_toArray, List.getElem?_cons_zero, List.getElem?_cons_succ, Option.some.injEq] at ho
      subst ho
      have h97 : a.tmps.getD 97 undef = .bool false := hd ⟨65, .guard⟩ (by simp) rfl
      have hgv : gpVal _ a 65 = .bool false := hd ⟨65, .guard⟩ (by simp) rfl
      rw [if_pos (by rw [gp_some rfl hgv]; decide)]
      clear hgv
      intro K hK
      go_simp
      exact hK _ _ (Below.refl _ _) hI rfl
    · simp only [List.getElem?_toArray, List.getElem?_cons_zero, List.getElem?_cons_succ, Option.some.injEq] at ho
      subst ho
      have h98 : a.tmps.getD 98 undef = .pointer (some ⟨ga, 0, none⟩) := hd ⟨66, .data⟩ (by simp) rfl
      have h97 : a.tmps.getD 97 undef = .bool false := hd ⟨65, .guard⟩ (by simp) rfl
      have hgv : gpVal _ a 65 = .bool false := hd ⟨65, .guard⟩ (by simp) rfl
      rw [if_pos (by rw [gp_some rfl hgv]; decide)]
      clear hgv
      intro K hK
      go_simp
      exact hK _ _ (Below.refl _ _) hI rfl
    · simp only [List.getElem?_toArray, List.getElem?_cons_zero, List.getElem?_cons_succ, Option.some.injEq] at ho
      subst ho
      have h99 : a.tmps.getD 99 undef = .int .i64 0 := hd ⟨67, .data⟩ (by simp) rfl
      have h97 : a.tmps.getD 97 undef = .bool false := hd ⟨65, .guard⟩ (by simp) rfl
      have hgv : gpVal _ a 65 = .bool false := hd ⟨65, .guard⟩ (by simp) rfl
      rw [if_pos (by rw [gp_some rfl hgv]; decide)]
      clear hgv
      intro K hK
      go_simp
      exact hK _ _ (Below.refl _ _) hI rfl
    · simp only [List.getElem?_toArray, List.getElem?_cons_zero, List.getElem?_cons_succ, Option.some.injEq] at ho
      subst ho
      have h100 : a.tmps.getD 100 undef = .bool true := hd ⟨68, .data⟩ (by simp) rfl
      have h97 : a.tmps.getD 97 undef = .bool false := hd ⟨65, .guard⟩ (by simp) rfl
      have hgv : gpVal _ a 65 = .bool false := hd ⟨65, .guard⟩ (by simp) rfl
      rw [if_pos (by rw [gp_some rfl hgv]; decide)]
      clear hgv
      intro K hK
      go_simp
      exact hK _ _ (Below.refl _ _) hI rfl
    · simp only [List.getElem?_toArray, List.getElem?_cons_zero, List.getElem?_cons_succ, Option.some.injEq] at ho
      subst ho
      have h101 : a.tmps.getD 101 undef = .bool true := hd ⟨69, .guard⟩ (by simp) rfl
      have hgv : gpVal _ a 69 = .bool true := hd ⟨69, .guard⟩ (by simp) rfl
      rw [if_pos (by rw [gp_some rfl hgv]; decide)]
      clear hgv
      intro K hK
      go_simp
      exact hK _ _ (Below.refl _ _) hI rfl
    · simp only [List.getElem?_toArray, List.getElem?_cons_zero, List.getElem?_cons_succ, Option.some.injEq] at ho
      subst ho
      have h101 : a.tmps.getD 101 undef = .bool true := hd ⟨69, .guard⟩ (by simp) rfl
      have hgv : gpVal _ a 69 = .bool true := hd ⟨69, .guard⟩ (by simp) rfl
      rw [if_pos (by rw [gp_some rfl hgv]; decide)]
      clear hgv
      intro K hK
      go_simp
      exact hK _ _ (Below.refl _ _) hI rfl
    · simp only [List.getElem?_toArray, List.getElem?_cons_zero, List.getElem?_cons_succ, Option.some.injEq] at ho
      subst ho
      have h102 : a.tmps.getD 102 undef = .agg #[.int .i64 0, .string ⟨#[]⟩, .int .i64 3] := hd ⟨70, .data⟩ (by simp) rfl
      have h103 : a.tmps.getD 103 undef = .agg #[.int .i64 0, .string ⟨#[]⟩, .int .i64 3] := hd ⟨71, .data⟩ (by simp) rfl
      have h101 : a.tmps.getD 101 undef = .bool true := hd ⟨69, .guard⟩ (by simp) rfl
      have hgv : gpVal _ a 69 = .bool true := hd ⟨69, .guard⟩ (by simp) rfl
      rw [if_pos (by rw [gp_some rfl hgv]; decide)]
      clear hgv
      intro K hK
      go_simp
      exact hK _ _ (Below.refl _ _) hI rfl
    · simp only [List.getElem?_toArray, List.getElem?_cons_zero, List.getElem?_cons_succ, Option.some.injEq] at ho
      subst ho
      have h101 : a.tmps.getD 101 undef = .bool true := hd ⟨69, .data⟩ (by simp) rfl
      have h104 : a.tmps.getD 104 undef = .bool true := hd ⟨72, .data⟩ (by simp) rfl
      have h97 : a.tmps.getD 97 undef = .bool false := hd ⟨65, .guard⟩ (by simp) rfl
      have hgv : gpVal _ a 65 = .bool false := hd ⟨65, .guard⟩ (by simp) rfl
      rw [if_pos (by rw [gp_some rfl hgv]; decide)]
      clear hgv
      intro K hK
      go_simp
      exact hK _ _ (Below.refl _ _) hI rfl
    · simp only [List.getElem?_toArray, List.getElem?_cons_zero, List.getElem?_cons_succ, Option.some.injEq] at ho
      subst ho
      have h97 : a.tmps.getD 97 undef = .bool false := hd ⟨65, .data⟩ (by simp) rfl
      have h105 : a.tmps.getD 105 undef = .bool true := hd ⟨73, .data⟩ (by simp) rfl
      have h93 : a.tmps.getD 93 undef = .bool true := hd ⟨61, .guard⟩ (by simp) rfl
      have hgv : gpVal _ a 61 = .bool true := hd ⟨61, .guard⟩ (by simp) rfl
      rw [if_pos (by rw [gp_some rfl hgv]; decide)]
      clear hgv
      intro K hK
      go_simp
      exact hK _ _ (Below.refl _ _) hI rfl
    · simp only [List.getElem?_toArray, List.getElem?_cons_zero, List.getElem?_cons_succ, Option.some.injEq] at ho
      subst ho
      have h93 : a.tmps.getD 93 undef = .bool true := hd ⟨61, .data⟩ (by simp) rfl
      have h106 : a.tmps.getD 106 undef = .bool true := hd ⟨74, .data⟩ (by simp) rfl
      rw [if_pos (gp_none rfl)]
      intro K hK
      go_simp
      exact hK _ _ (Below.refl _ _) hI rfl
    · simp only [List.getElem?_toArray, List.getElem?_cons_zero, List.getElem?_cons_succ, Option.some.injEq] at ho
      subst ho
      have h107 : a.tmps.getD 107 undef = .bool true := hd ⟨75, .data⟩ (by simp) rfl
      rw [if_pos (gp_none rfl)]
      intro K hK
      go_simp
      exact hK _ _ (Below.refl _ _) hI rfl
    · simp only [List.getElem?_toArray, List.getElem?_cons_zero, List.getElem?_cons_succ, Option.some.injEq] at ho
      subst ho
      have h108 : a.tmps.getD 108 undef = .bool true := hd ⟨76, .guard⟩ (by simp) rfl
      have hgv : gpVal _ a 76 = .bool true := hd ⟨76, .guard⟩ (by simp) rfl
      rw [if_pos (by rw [gp_some rfl hgv]; decide)]
      clear hgv
      intro K hK
      go_simp
      exact hK _ _ (Below.refl _ _) hI rfl
    · simp only [List.getElem?_toArray, List.getElem?_cons_zero, List.getElem?_cons_succ, Option.some.injEq] at ho
      subst ho
      have h108 : a.tmps.getD 108 undef = .bool true := hd ⟨76, .guard⟩ (by simp) rfl
      have hgv : gpVal _ a 76 = .bool true := hd ⟨76, .guard⟩ (by simp) rfl
      rw [if_pos (by rw [gp_some rfl hgv]; decide)]
      clear hgv
      intro K hK
      go_simp
      exact hK _ _ (Below.refl _ _) hI rfl
    · simp only [List.getElem?_toArray, List.getElem?_cons_zero, List.getElem?_cons_succ, Option.some.injEq] at ho
      subst ho
      have h109 : a.tmps.getD 109 undef = .agg #[.int .i64 0, .string ⟨#[]⟩, .int .i64 (ao : Nat)] := hd ⟨77, .data⟩ (by simp) rfl
      have h110 : a.tmps.getD 110 undef = .agg #[.int .i64 0, .string ⟨#[]⟩, .int .i64 3] := hd ⟨78, .data⟩ (by simp) rfl
      have h108 : a.tmps.getD 108 undef = .bool true := hd ⟨76, .guard⟩ (by simp) rfl
      have hgv : gpVal _ a 76 = .bool true := hd ⟨76, .guard⟩ (by simp) rfl
      rw [if_pos (by rw [gp_some rfl hgv]; decide)]
      clear hgv
      intro K hK
      go_simp
      go_at_call 22
      refine (Hs1.out _ hI.1).mono ?_
      rintro e w' ⟨rfl, hb⟩
      exact hK _ _ hb ⟨bt hI.1 hb, bt hI.2 hb⟩ rfl
    · simp only [List.getElem?_toArray, List.getElem?_cons_zero, List.getElem?_cons_succ, Option.some.injEq] at ho
      subst ho
      have h108 : a.tmps.getD 108 undef = .bool true := hd ⟨76, .data⟩ (by simp) rfl
      have h111 : a.tmps.getD 111 undef = .bool true := hd ⟨79, .data⟩ (by simp) rfl
      rw [if_pos (gp_none rfl)]
      intro K hK
      go_simp
      exact hK _ _ (Below.refl _ _) hI rfl
    · simp only [List.getElem?_toArray, List.getElem?_cons_zero, List.getElem?_cons_succ, Option.some.injEq] at ho
      subst ho
      have h112 : a.tmps.getD 112 undef = .bool true := hd ⟨80, .data⟩ (by simp) rfl
      rw [if_pos (gp_none rfl)]
      intro K hK
      go_simp
      exact hK _ _ (Below.refl _ _) hI rfl
    · simp only [List.getElem?_toArray, List.getElem?_cons_zero, List.getElem?_cons_succ, Option.some.injEq] at ho
      subst ho
      have h113 : a.tmps.getD 113 undef = .bool true := hd ⟨81, .guard⟩ (by simp) rfl
      have hgv : gpVal _ a 81 = .bool true := hd ⟨81, .guard⟩ (by simp) rfl
      rw [if_pos (by rw [gp_some rfl hgv]; decide)]
      clear hgv
      intro K hK
      go_simp
      exact hK _ _ (Below.refl _ _) hI rfl
    · simp only [List.getElem?_toArray, List.getElem?_cons_zero, List.getElem?_cons_succ, Option.some.injEq] at ho
      subst ho
      have h113 : a.tmps.getD 113 undef = .bool true := hd ⟨81, .guard⟩ (by simp) rfl
      have hgv : gpVal _ a 81 = .bool true := hd ⟨81, .guard⟩ (by simp) rfl
      rw [if_pos (by rw [gp_some rfl hgv]; decide)]
      clear hgv
      intro K hK
      go_simp
      exact hK _ _ (Below.refl _ _) hI rfl
    · simp only [List.getElem?_toArray, List.getElem?_cons_zero, List.getElem?_cons_succ, Option.some.injEq] at ho
      subst ho
      have h114 : a.tmps.getD 114 undef = .agg #[.int .i64 0, .string ⟨#[]⟩, .int .i64 3] := hd ⟨82, .data⟩ (by simp) rfl
      have h115 : a.tmps.getD 115 undef = .agg #[.int .i64 0, .string ⟨#[]⟩, .int .i64 (ao : Nat)] := hd ⟨83, .data⟩ (by simp) rfl
      have h113 : a.tmps.getD 113 undef = .bool true := hd ⟨81, .guard⟩ (by simp) rfl
      have hgv : gpVal _ a 81 = .bool true := hd ⟨81, .guard⟩ (by simp) rfl
      rw [if_pos (by rw [gp_some rfl hgv]; decide)]
      clear hgv
      intro K hK
      go_simp
      go_at_call 22
      refine (Hs2.out _ hI.1).mono ?_
      rintro e w' ⟨rfl, hb⟩
      exact hK _ _ hb ⟨bt hI.1 hb, bt hI.2 hb⟩ rfl
    · simp only [List.getElem?_toArray, List.getElem?_cons_zero, List.getElem?_cons_succ, Option.some.injEq] at ho
      subst ho
      have h113 : a.tmps.getD 113 undef = .bool true := hd ⟨81, .data⟩ (by simp) rfl
      have h116 : a.tmps.getD 116 undef = .bool true := hd ⟨84, .data⟩ (by simp) rfl
      rw [if_pos (gp_none rfl)]
      intro K hK
      go_simp
      exact hK _ _ (Below.refl _ _) hI rfl
    · simp only [List.getElem?_toArray, List.getElem?_cons_zero, List.getElem?_cons_succ, Option.some.injEq] at ho
      subst ho
      have h117 : a.tmps.getD 117 undef = .bool true := hd ⟨85, .data⟩ (by simp) rfl
      rw [if_pos (gp_none rfl)]
      intro K hK
      go_simp
      exact hK _ _ (Below.refl _ _) hI rfl
  · intro a w hI hk hs
    exact hQ a w hk.1 (hk.2.1.trans hsz) (hs 86 (of_decide_eq_true (by kernel_rfl))) hI.1
end Go.Proofs.YtjpopmgnhgancaaDoor
