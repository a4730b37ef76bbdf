/- Rows of trees that came in, opened. No condition beyond what the theorems state. -/
import Derived.Test.YtcmlfkoeajpliaaDoorRowBase
namespace Go.Proofs.YtcmlfkoeajpliaaDoor
open Go.Joins Go.ChangeShapes Go.WideShapes Go.ChangeAt Go.RowKit Go.Lib Go.Deep
set_option maxRecDepth 100000 in
theorem open_trees {H : Type} {enc : TypeId × Value → H} {W : World} {base b0 : Nat} {held : Bool} {r : Reach} {v : Value} {d : DataW H} {p : List MemPlace} (hv : Value.okWide Tryd.prog W r b0 22 v) (h : DataW.Trod enc Tryd.prog W base (fun _ => true) held 22 v d p) :
    ∃ (A : Option Addr) (cap : Nat) (ts : List Tr), v = .slice A ts.length cap ∧ RdP (fun b => b < W.heap.size) W 5 A ts.length (rowT ts) ∧ (∀ t ∈ ts, t.In (fun b => b < W.heap.size) W) ∧ ∀ t ∈ ts, t.pl.bulk ≤ Rows.uptoBulk d ∧ t.pl.lens := by
  obtain ⟨A, len, cap, rfl⟩ := okWide_slice Tryd.underlying22 hv
  obtain ⟨fuel, hf⟩ := h
  have hC : Tryd.prog.cellsOf 33 = 5 := by kernel_rfl
  rcases open_slice (x := (d, p)) Tryd.underlying22 hf with ⟨hcs, _⟩ | ⟨a, l, c, m, n', D, Pl, hcs, _, hl, _, hm, hx, hi⟩
  · simp [Value.cells] at hcs
    obtain ⟨rfl, rfl, rfl⟩ := hcs
    exact ⟨none, 0, [], rfl, ⟨by simp [rowT], fun h => absurd h (by simp)⟩, by simp, by simp⟩
  · simp [Value.cells] at hcs
    obtain ⟨rfl, rfl, rfl⟩ := hcs
    simp only [if_true] at hm
    subst hm
    have hd4 := (Prod.mk.inj hx).1
    rw [hC] at hi
    have hall : Rows.uptoBulkAll ((List.range len).map D) ≤ Rows.uptoBulk d := by
      rw [hd4]
      simp only [Rows.uptoBulk]
      omega
    obtain ⟨f, hf⟩ := pick_fn (n := len) (p := fun i (t : Tr) => (∀ o u, t.cells[o]? = some u → W.cell? (a.add (i * 5 + o)) = some u) ∧ t.In (fun b => b < W.heap.size) W ∧ t.pl.bulk ≤ Rows.uptoBulk (D i) ∧ t.pl.lens) (.mk 0 [] [] none 0 [] none 0 []) (fun i hlt => by
      obtain ⟨cs', hc, ht'⟩ := hi i (by omega)
      obtain ⟨_, hcl, hat⟩ := World.cells?_some hc
      obtain ⟨t, ht, hin, hbk⟩ := open_tree _ n' cs' (D i) (Pl i) (Nat.le_refl _) ht'
      refine ⟨t, fun o u hu => ?_, hin, hbk⟩
      have ho : o < 5 := by
        have := (List.getElem?_eq_some_iff.1 hu).1
        rw [← ht] at this
        omega
      have := hat o ho
      rw [ht, hu] at this
      rw [← Go.Deep.add_add]
      exact this)
    have hll : ((List.range len).map f).length = len := by simp
    refine ⟨some a, _, (List.range len).map f, by rw [hll], ⟨by rw [rowT_len], fun h0 => ⟨a, rfl, ?_, fun j u hu => ?_⟩⟩, fun t ht => ?_, fun t ht => ?_⟩
    · rw [hll] at h0
      have h5 := (hf 0 h0).1 0
      generalize f 0 = t0 at h5
      obtain ⟨k', n'', v', A', ac', ps', K', kc', ks'⟩ := t0
      exact World.block_lt_of_cell? _ a (by simpa [Addr.add] using h5 _ rfl)
    · have hj : j < len * 5 := by
        have := (List.getElem?_eq_some_iff.1 hu).1
        rw [rowT_len, hll] at this
        exact this
      have hlt : j / 5 < len := by omega
      have hg' : ((List.range len).map f)[j / 5]? = some (f (j / 5)) := by simp [hlt]
      have hcl : (f (j / 5)).cells.length = 5 := by cases f (j / 5); rfl
      have hgc : (f (j / 5)).cells[j % 5]? = some ((f (j / 5)).cells[j % 5]'(by omega)) := List.getElem?_eq_getElem (by omega)
      have hr := rowT_at _ _ _ _ _ hg' hgc (by omega)
      have ej : j / 5 * 5 + j % 5 = j := by omega
      rw [ej] at hr
      rw [hr] at hu
      cases hu
      have := (hf _ hlt).1 _ _ hgc
      rwa [ej] at this
    · obtain ⟨i, hi', rfl⟩ := List.mem_map.1 ht
      exact (hf i (List.mem_range.1 hi')).2.1
    · obtain ⟨i, hi', rfl⟩ := List.mem_map.1 ht
      have h1 := (hf i (List.mem_range.1 hi')).2.2
      have := bulk_mem _ _ (List.mem_map.2 ⟨i, hi', rfl⟩ : D i ∈ (List.range len).map D)
      exact ⟨by omega, h1.2⟩
end Go.Proofs.YtcmlfkoeajpliaaDoor
