/- A row of numbers that came in. No condition beyond what the theorems state. -/
import Derived.Deep.Slices
import Derived.Deep.Fields
import Derived.ChangeSame
import Derived.Test.YtmggffhecopgiaaDoorRowBase
import Derived.Test.YtmggffhecopgiaaDoorRoundsEnd
namespace Go.Proofs.YtmggffhecopgiaaDoor
open Go.ChangeShapes Go.WideShapes Go.Deep Go.RowKit Go.Lib
section
variable {H : Type} {enc : TypeId × Value → H} {P : Program} {w : World} {base : Nat} {spare : Nat → Bool} {held : Bool}
theorem open_slice_fields {t e : TypeId} {fs : Array Field} {fuel : Nat} {cs : List Value} {x : DataW H × List MemPlace} (ht : P.underlying t = some (.slice e)) (he : P.underlying e = some (.struct fs))
    (hone : oneCellFields P fs = true) (hC : P.cellsOf e = fs.size) (h : DataW.trod enc P w base spare held fuel t cs = some x) :
    (cs = [.slice none 0 0] ∧ x = (.nil, [])) ∨
    ∃ (a : Addr) (len cap m : Nat) (D : Nat → DataW H) (Pl : Nat → List MemPlace), cs = [.slice (some a) len cap] ∧ base ≤ a.block ∧ len ≤ cap ∧ cap ≤ maxLen ∧ m = (if spare a.block then cap else len) ∧
      x = (.slice ((List.range len).map D) ((List.range (m - len)).map fun j => D (len + j)), MemPlace.row a (m * fs.size) ++ (List.range m).flatMap Pl) ∧
      ∀ i, i < m → ∃ (ys : List (DataW H × List MemPlace)) (n : Nat), D i = .agg (ys.map (·.1)) ∧ Pl i = ys.flatMap (·.2) ∧ ys.length = fs.size ∧
        ∀ (j : Nat) (f : Field), fs[j]? = some f → ∃ (v : Value) (y : DataW H × List MemPlace), w.cell? (a.add (i * fs.size + j)) = some v ∧ ys[j]? = some y ∧ DataW.trod enc P w base spare held n f.type [v] = some y := by
  rcases open_slice ht h with h0 | ⟨a, len, cap, m, n, D, Pl, hcs, hb, hl, hm, hmm, hx, hi⟩
  · exact .inl h0
  · refine .inr ⟨a, len, cap, m, D, Pl, hcs, hb, hl, hm, hmm, by rw [hC] at hx; exact hx, fun i him => ?_⟩
    obtain ⟨cs', hc, ht'⟩ := hi i him
    rw [hC] at hc
    obtain ⟨ys, n', hn', hy, hlen, hyl, hf⟩ := DataW.trod_struct he ht'
    obtain ⟨_, hcl, hat⟩ := World.cells?_some hc
    simp only [Prod.mk.injEq] at hy
    refine ⟨ys, n', hy.1, hy.2, hyl, fun j f hj => ?_⟩
    obtain ⟨ho, hk⟩ := hone_of hone j f hj
    have hjl : j < fs.size := (Array.getElem?_eq_some_iff.1 hj).1
    have hcell := hat j hjl
    have hv : cs'[j]? = some (cs'[j]'(by omega)) := List.getElem?_eq_getElem (by omega)
    have h1 := hf j f hj
    rw [ho, hk] at h1
    have hone' : (cs'.drop j).take 1 = [cs'[j]'(by omega)] := by
      rw [List.drop_eq_getElem_cons (by omega)]
      rfl
    rw [hone'] at h1
    have hys : ys[j]? = some (ys[j]'(by omega)) := List.getElem?_eq_getElem (by omega)
    refine ⟨_, _, ?_, hys, h1.trans hys⟩
    rw [← Go.Deep.add_add, hcell, hv]
end
set_option maxRecDepth 100000 in
/-- A row of numbers that came in: it reads as its pairs of whole numbers. -/
theorem open_nums {H : Type} {enc : TypeId × Value → H} {W : World} {base b0 : Nat} {held : Bool} {r : Reach} {v : Value} {d : DataW H} {p : List MemPlace} (hv : Value.okWide Tryd.prog W r b0 47 v) (h : DataW.Trod enc Tryd.prog W base (fun _ => true) held 47 v d p) :
    ∃ (A : Option Addr) (cap : Nat) (L : List (Int × Int)), v = .slice A L.length cap ∧ (∀ p ∈ L, InI p.1 ∧ InI p.2) ∧ Reads W W.heap.size 2 A L.length (rowL L) := by
  obtain ⟨A, len, cap, rfl⟩ := okWide_slice Tryd.underlying47 hv
  obtain ⟨fuel, hf⟩ := h
  rcases open_slice_fields Tryd.underlying47 Tryd.underlying23 (by kernel_rfl) (by kernel_rfl) hf with ⟨hcs, _⟩ | ⟨a, l, c, m, D, Pl, hcs, _, hl, _, hm, _, hi⟩
  · simp [Value.cells] at hcs
    obtain ⟨rfl, rfl, rfl⟩ := hcs
    exact ⟨none, 0, [], rfl, by simp, by simp [rowL], fun h => absurd h (by simp)⟩
  · simp [Value.cells] at hcs
    obtain ⟨rfl, rfl, rfl⟩ := hcs
    simp only [if_true] at hm
    subst hm
    have pick : ∀ i : Nat, i < len → ∃ n k : Int, InI n ∧ InI k ∧ W.cell? (a.add (i * 2)) = some (.int .i64 n) ∧ W.cell? (a.add (i * 2 + 1)) = some (.int .i64 k) := by
      intro i hlt
      obtain ⟨ys, n, _, _, _, hf⟩ := hi i (by omega)
      obtain ⟨v0, y0, hc0, _, t0⟩ := hf 0 _ rfl
      obtain ⟨v1, y1, hc1, _, t1⟩ := hf 1 _ rfl
      obtain ⟨x, h0, _, w0⟩ := DataW.trod_int Tryd.underlying3 t0
      obtain ⟨k, h1, _, w1⟩ := DataW.trod_int Tryd.underlying3 t1
      cases h0
      cases h1
      exact ⟨x, k, bounds_i64 w0, bounds_i64 w1, hc0, hc1⟩
    obtain ⟨f, hfn⟩ : ∃ f : Nat → Int × Int, ∀ i, i < len → InI (f i).1 ∧ InI (f i).2 ∧ W.cell? (a.add (i * 2)) = some (.int .i64 (f i).1) ∧ W.cell? (a.add (i * 2 + 1)) = some (.int .i64 (f i).2) := by
      refine ⟨fun i => if h : i < len then ((pick i h).choose, (pick i h).choose_spec.choose) else (0, 0), fun i h => ?_⟩
      simp only [h, dif_pos]
      exact (pick i h).choose_spec.choose_spec
    refine ⟨some a, _, (List.range len).map f, by rw [List.length_map, List.length_range], ?_, ?_, ?_⟩
    · intro q hq
      obtain ⟨i, hi', rfl⟩ := List.mem_map.1 hq
      have := hfn i (List.mem_range.1 hi')
      exact ⟨this.1, this.2.1⟩
    · rw [rowL_len]
    · intro h0
      simp only [List.length_map, List.length_range] at h0
      refine ⟨a, rfl, World.block_lt_of_cell? _ a (by simpa [Addr.add] using (hfn 0 h0).2.2.1), fun j u hu => ?_⟩
      have hj : j < len * 2 := by
        have := (List.getElem?_eq_some_iff.1 hu).1
        rw [rowL_len] at this
        simpa using this
      have hlt : j / 2 < len := by omega
      have hg : ((List.range len).map f)[j / 2]? = some (f (j / 2)) := by simp [hlt]
      obtain ⟨r1, r2⟩ := rowL_at _ _ _ hg
      obtain ⟨_, _, c1, c2⟩ := hfn _ hlt
      rcases Nat.mod_two_eq_zero_or_one j with e | e
      · have e' : 2 * (j / 2) = j := by omega
        rw [e'] at r1
        rw [r1] at hu; cases hu
        have e3 : j / 2 * 2 = j := by omega
        rw [e3] at c1; exact c1
      · have e' : 2 * (j / 2) + 1 = j := by omega
        rw [e'] at r2
        rw [r2] at hu; cases hu
        have e3 : j / 2 * 2 + 1 = j := by omega
        rw [e3] at c2; exact c2
end Go.Proofs.YtmggffhecopgiaaDoor
