/- What the listed variables hold; types that came in. No condition beyond what the theorems state. -/
import Derived.Test.YtjpopmgnhgancaaDoorCards
import Derived.Test.YtjpopmgnhgancaaDoorTie
import Derived.Test.YtjpopmgnhgancaaDoorKinds
import Derived.ProofKit
import Derived.Deep.DeepHandedRow
import Derived.Lib.LaidTab
import Derived.Lib.LaidU8T
import Derived.Lib.LaidIn
import Derived.PinnedBridge
import Derived.Lib.SmallJoins
import Derived.OpenShut
import Derived.Deep.Slices
import Derived.Deep.Fields
namespace Go.Proofs.YtjpopmgnhgancaaDoor
open Go.Joins Go.ChangeShapes Go.WideShapes Go.ChangeAt Go.RowKit Go.Lib Go.Deep
set_option maxRecDepth 100000
section
variable {H : Type} {enc : TypeId × Value → H} {P : Program} {w : World} {base : Nat} {spare : Nat → Bool} {held : Bool}
theorem open_agg3 {r : Reach} {b0 : Nat} {t : TypeId} {f0 f1 f2 : Field} {v : Value} {d : DataW H} {p : List MemPlace} (hs : P.underlying t = some (.struct #[f0, f1, f2])) (hone : oneCellFields P #[f0, f1, f2] = true) (hC : P.cellsOf t = 3)
    (hv : Value.okWide P w r b0 t v) (h : DataW.Trod enc P w base spare held t v d p) :
    ∃ (v0 v1 v2 : Value) (y0 y1 y2 : DataW H × List MemPlace) (n : Nat), v = .agg #[v0, v1, v2] ∧ d = .agg [y0.1, y1.1, y2.1] ∧
      DataW.trod enc P w base spare held n f0.type [v0] = some y0 ∧ DataW.trod enc P w base spare held n f1.type [v1] = some y1 ∧ DataW.trod enc P w base spare held n f2.type [v2] = some y2 := by
  obtain ⟨cs, rfl, hsz⟩ := okWide_struct hs hv
  obtain ⟨l⟩ := cs
  match l, hsz.trans hC with
  | [c0, c1, c2], _ =>
    obtain ⟨fuel, hf⟩ := h
    obtain ⟨xs, n, _, hx, _, hlen, hg⟩ := DataW.trod_struct hs hf
    obtain ⟨o0, k0⟩ := hone_of hone 0 f0 rfl
    obtain ⟨o1, k1⟩ := hone_of hone 1 f1 rfl
    obtain ⟨o2, k2⟩ := hone_of hone 2 f2 rfl
    match xs, hlen with
    | [y0, y1, y2], _ =>
      simp only [Prod.mk.injEq] at hx
      exact ⟨c0, c1, c2, y0, y1, y2, n, rfl, by simpa using hx.1, by simpa [Value.cells, o0, k0] using hg 0 f0 rfl, by simpa [Value.cells, o1, k1] using hg 1 f1 rfl, by simpa [Value.cells, o2, k2] using hg 2 f2 rfl⟩
end
theorem own : ownKnob Tryd.prog.godebug = none := by kernel_rfl
def abTab : List Int := [0, 2, 6, 6, 6, 6, 13, 12, 12, 12, 12, 12, 13, 0]
theorem te_of' {W : World} (hu : VarReads Tryd.prog W "espalier/types.unseen" Rows.laid_espalier_types_unseen) (ha : VarReads Tryd.prog W "espalier/types.leastAbove" Rows.laid_espalier_types_leastAbove) : TE W := by
  obtain ⟨g', t', cs, fuel, p, hg', ht', hvar, hd⟩ := ha
  have hg : Tryd.prog.globalNamed "espalier/types.leastAbove" = some 3 := by kernel_rfl
  obtain rfl := Option.some.inj (hg.symm.trans hg')
  have hty : (Tryd.prog.globals[3]?).map (·.type) = some 121 := by kernel_rfl
  obtain rfl := Option.some.inj (hty.symm.trans ht')
  have hdat : (Rows.laid_espalier_types_leastAbove : DataW Unit) = Lib.tabData .i64 abTab := rfl
  rw [hdat] at hd
  have hcs := Lib.cells_of_tab Tryd.underlying121 Tryd.underlying23 (by kernel_rfl) (by kernel_rfl) hd
  obtain ⟨gu', tu', cu, fu, pu, hgu', htu', hvaru, hdu⟩ := hu
  have hgu : Tryd.prog.globalNamed "espalier/types.unseen" = some 2 := by kernel_rfl
  obtain rfl := Option.some.inj (hgu.symm.trans hgu')
  have htyu : (Tryd.prog.globals[2]?).map (·.type) = some 73 := by kernel_rfl
  obtain rfl := Option.some.inj (htyu.symm.trans htu')
  obtain ⟨xs, n, _, hx, hlen, hxl, hf⟩ := DataW.trod_struct Tryd.underlying73 hdu
  have h0 := hf 0 _ rfl
  have h1 := hf 1 _ rfl
  have hl2 : cu.toList.length = 2 := hlen.trans (by kernel_rfl)
  obtain ⟨cu⟩ := cu
  match cu, hl2, xs, hxl with
  | [c0, c1], _, [y0, y1], _ =>
    have h0' : DataW.trod (fun _ => ()) Tryd.prog W 0 (fun _ => true) false n 3 [c0] = some y0 := by
      have e : Tryd.prog.cellsOf 3 = 1 := by kernel_rfl
      simpa [e] using h0
    have h1' : DataW.trod (fun _ => ()) Tryd.prog W 0 (fun _ => true) false n 3 [c1] = some y1 := by
      have e : Tryd.prog.cellsOf 3 = 1 := by kernel_rfl
      simpa [e] using h1
    obtain ⟨z0, e0, rfl, _⟩ := DataW.trod_int Tryd.underlying3 h0'
    obtain ⟨z1, e1, rfl, _⟩ := DataW.trod_int Tryd.underlying3 h1'
    cases e0
    cases e1
    simp only [Rows.laid_espalier_types_unseen, List.map_cons, List.map_nil, Prod.mk.injEq, DataW.agg.injEq, List.cons.injEq, DataW.lit.injEq, Lit.int.injEq, and_true, true_and] at hx
    obtain ⟨⟨rfl, rfl⟩, _⟩ := hx
    refine ⟨fun j hj => ?_, by simpa using World.var?_cell hgu hvaru 0, by simpa using World.var?_cell hgu hvaru 1⟩
    have := World.var?_cell hg hvar j
    rw [← Array.getElem?_toList, hcs] at this
    rw [this]
    rcases (by omega : j = 0 ∨ j = 1 ∨ j = 2 ∨ j = 3 ∨ j = 4 ∨ j = 5 ∨ j = 6 ∨ j = 7 ∨ j = 8 ∨ j = 9 ∨ j = 10 ∨ j = 11 ∨ j = 12) with rfl | rfl | rfl | rfl | rfl | rfl | rfl | rfl | rfl | rfl | rfl | rfl | rfl <;> rfl
theorem bulk_of {H : Type} {enc : TypeId × Value → H} {W : World} {ts : List TypeId} {vs : List Value} {ds gs : List (DataW H)} {b : List MemPlace} (hW : DataW.Whole enc Tryd.prog ts [] false W vs ds gs b) (h : Rows.uptoSmall H (ds ++ gs) = true) : Rows.uptoBulkAll ds ≤ 1048576 := by
  obtain ⟨p, q, _, hV, _, _, _⟩ := hW
  obtain ⟨rfl, _⟩ := trodVars_none hV
  rw [List.append_nil] at h
  exact of_decide_eq_true h
theorem laidOut : laidOutB Tryd.prog = true := by kernel_rfl
theorem len_str {s : ByteArray} (h : s.size ≤ maxLen) : s.data.toList.length ≤ maxLen := by simpa using h
/-- A type that came in: its three fields. -/
theorem open_st {H : Type} {enc : TypeId × Value → H} {W : World} {base b0 : Nat} {spare : Nat → Bool} {held : Bool} {r : Reach} {v : Value} {d : DataW H} {p : List MemPlace} (hv : Value.okWide Tryd.prog W r b0 26 v) (h : DataW.Trod enc Tryd.prog W base spare held 26 v d p) :
    ∃ (i o : Int) (l : List UInt8), v = .agg #[.int .i64 i, .string (ba' l), .int .i64 o] ∧ l.length < Rows.uptoBulk d := by
  obtain ⟨v0, v1, v2, y0, y1, y2, m, rfl, rfl, t0, t1, t2⟩ := open_agg3 (P := Tryd.prog) Tryd.underlying26 (by kernel_rfl) (by kernel_rfl) hv h
  obtain ⟨i, h0, e0, w0⟩ := DataW.trod_int Tryd.underlying23 t0
  obtain ⟨s, h1, e1, w1⟩ := DataW.trod_string Tryd.underlying9 t1
  obtain ⟨o, h2, e2, w2⟩ := DataW.trod_int Tryd.underlying24 t2
  cases h0
  cases h1
  cases h2
  refine ⟨i, o, s.data.toList, rfl, ?_⟩
  subst e0; subst e1; subst e2
  simp only [Rows.uptoBulk, Rows.uptoBulkAll]
  omega
end Go.Proofs.YtjpopmgnhgancaaDoor
