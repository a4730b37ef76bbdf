/- Rows of values that came in, opened. No condition beyond what the theorems state. -/
import Derived.Test.YtemgabmafmehnaaGreatDoorRowBase
import Derived.Test.YtemgabmafmehnaaGreatDoorLwRow4
import Derived.Deep.Slices
import Derived.Deep.Fields
import Derived.ChangeSame
namespace Go.Proofs.YtemgabmafmehnaaGreatDoor
open Go.ChangeShapes Go.WideShapes Go.Deep Go.RowKit Go.Lib
section
variable {H : Type} {enc : TypeId × Value → H} {P : Program} {w : World} {base : Nat} {spare : Nat → Bool} {held : Bool}
theorem open_slice_fields {t e : TypeId} {fs : Array Field} {fuel : Nat} {cs : List Value} {x : DataW H × List MemPlace} (ht : P.underlying t = some (.slice e)) (he : P.underlying e = some (.struct fs))
    (hone : oneCellFields P fs = true) (hC : P.cellsOf e = fs.size) (h : DataW.trod enc P w base spare held fuel t cs = some x) :
    (cs = [.slice none 0 0] ∧ x = (.nil, [])) ∨
    ∃ (a : Addr) (len cap m : Nat) (D : Nat → DataW H) (Pl : Nat → List MemPlace), cs = [.slice (some a) len cap] ∧ base ≤ a.block ∧ len ≤ cap ∧ cap ≤ maxLen ∧ m = (if spare a.block then cap else len) ∧
      x = (.slice ((List.range len).map D) ((List.range (m - len)).map fun j => D (len + j)), MemPlace.row a (m * fs.size) ++ (List.range m).flatMap Pl) ∧
      ∀ i, i < m → ∃ (ys : List (DataW H × List MemPlace)) (n : Nat), D i = .agg (ys.map (·.1)) ∧ Pl i = ys.flatMap (·.2) ∧ ys.length = fs.size ∧
        ∀ (j : Nat) (f : Field), fs[j]? = some f → ∃ (v : Value) (y : DataW H × List MemPlace), w.cell? (a.add (i * fs.size + j)) = some v ∧ ys[j]? = some y ∧ DataW.trod enc P w base spare held n f.type [v] = some y := by
  rcases open_slice ht h with h0 | ⟨a, len, cap, m, n, D, Pl, hcs, hb, hl, hm, hmm, hx, hi⟩
  · exact .inl h0
  · refine .inr ⟨a, len, cap, m, D, Pl, hcs, hb, hl, hm, hmm, by rw [hC] at hx; exact hx, fun i him => ?_⟩
    obtain ⟨cs', hc, ht'⟩ := hi i him
    rw [hC] at hc
    obtain ⟨ys, n', hn', hy, hlen, hyl, hf⟩ := DataW.trod_struct he ht'
    obtain ⟨_, hcl, hat⟩ := World.cells?_some hc
    simp only [Prod.mk.injEq] at hy
    refine ⟨ys, n', hy.1, hy.2, hyl, fun j f hj => ?_⟩
    obtain ⟨ho, hk⟩ := hone_of hone j f hj
    have hjl : j < fs.size := (Array.getElem?_eq_some_iff.1 hj).1
    have hcell := hat j hjl
    have hv : cs'[j]? = some (cs'[j]'(by omega)) := List.getElem?_eq_getElem (by omega)
    have h1 := hf j f hj
    rw [ho, hk] at h1
    have hone' : (cs'.drop j).take 1 = [cs'[j]'(by omega)] := by
      rw [List.drop_eq_getElem_cons (by omega)]
      rfl
    rw [hone'] at h1
    have hys : ys[j]? = some (ys[j]'(by omega)) := List.getElem?_eq_getElem (by omega)
    refine ⟨_, _, ?_, hys, h1.trans hys⟩
    rw [← Go.Deep.add_add, hcell, hv]
end
theorem bulk_mem {H : Type} : ∀ (l : List (DataW H)) (d : DataW H), d ∈ l → Rows.uptoBulk d ≤ Rows.uptoBulkAll l
  | a :: l, d, h => by
    have e : Rows.uptoBulkAll (a :: l) = Rows.uptoBulk a + Rows.uptoBulkAll l := by simp only [Rows.uptoBulkAll]
    rcases List.mem_cons.1 h with rfl | h
    · omega
    · have := bulk_mem l d h; omega
theorem bulk_len {H : Type} : ∀ (l : List (DataW H)), (∀ d ∈ l, 1 ≤ Rows.uptoBulk d) → l.length ≤ Rows.uptoBulkAll l
  | [], _ => by simp
  | a :: l, h => by
    have e : Rows.uptoBulkAll (a :: l) = Rows.uptoBulk a + Rows.uptoBulkAll l := by simp only [Rows.uptoBulkAll]
    have h1 := h a (.head _)
    have h2 := bulk_len l (fun d hd => h d (.tail _ hd))
    rw [e, List.length_cons]; omega
set_option maxRecDepth 100000 in
set_option maxHeartbeats 1000000 in
/-- A row of values that came in: it reads as its values. -/
theorem open_ats {H : Type} {enc : TypeId × Value → H} {W : World} {base b0 : Nat} {held : Bool} {r : Reach} {v : Value} {d : DataW H} {p : List MemPlace} (hv : Value.okWide Tryz.prog W r b0 55 v) (h : DataW.Trod enc Tryz.prog W base (fun _ => true) held 55 v d p) :
    ∃ (A : Option Addr) (cap : Nat) (L : List R5), v = .slice A L.length cap ∧ (∀ r ∈ L, InI r.n ∧ InI r.c ∧ r.l.length < Rows.uptoBulk d) ∧ L.length ≤ Rows.uptoBulk d ∧ Reads W W.heap.size 5 A L.length (rowR L) := by
  obtain ⟨A, len, cap, rfl⟩ := okWide_slice Tryz.underlying55 hv
  obtain ⟨fuel, hf⟩ := h
  rcases open_slice_fields Tryz.underlying55 Tryz.underlying24 (by kernel_rfl) (by kernel_rfl) hf with ⟨hcs, _⟩ | ⟨a, l, c, m, D, Pl, hcs, _, hl, _, hm, hx, hi⟩
  · simp [Value.cells] at hcs
    obtain ⟨rfl, rfl, rfl⟩ := hcs
    exact ⟨none, 0, [], rfl, by simp, by simp, by simp [rowR], fun h => absurd h (by simp)⟩
  · simp [Value.cells] at hcs
    obtain ⟨rfl, rfl, rfl⟩ := hcs
    simp only [if_true] at hm
    subst hm
    have hd := (Prod.mk.inj hx).1
    have pick : ∀ i : Nat, i < len → ∃ r : R5, (InI r.n ∧ InI r.c ∧ r.l.length < Rows.uptoBulk (D i)) ∧ ∀ (o : Nat) (u : Value), r.cells[o]? = some u → W.cell? (a.add (i * 5 + o)) = some u := by
      intro i hlt
      obtain ⟨ys, n, hD, _, hyl, hf⟩ := hi i (by omega)
      obtain ⟨v0, y0, hc0, g0, t0⟩ := hf 0 _ rfl
      obtain ⟨v1, y1, hc1, g1, t1⟩ := hf 1 _ rfl
      obtain ⟨v2, y2, hc2, g2, t2⟩ := hf 2 _ rfl
      obtain ⟨v3, y3, hc3, g3, t3⟩ := hf 3 _ rfl
      obtain ⟨v4, y4, hc4, g4, t4⟩ := hf 4 _ rfl
      obtain ⟨k, h0, e0, w0⟩ := DataW.trod_int Tryz.underlying22 t0
      obtain ⟨x, h1, e1, w1⟩ := DataW.trod_int Tryz.underlying3 t1
      obtain ⟨c, h2, e2, w2⟩ := DataW.trod_int Tryz.underlying3 t2
      obtain ⟨s, h3, e3, w3⟩ := DataW.trod_string Tryz.underlying9 t3
      obtain ⟨b, h4, e4⟩ := DataW.trod_bool Tryz.underlying4 t4
      cases h0
      cases h1
      cases h2
      cases h3
      cases h4
      refine ⟨⟨k, x, c, s.data.toList, b⟩, ⟨bounds_i64 w1, bounds_i64 w2, ?_⟩, ?_⟩
      · have hy : (y3.1) ∈ ys.map (·.1) := List.mem_map.2 ⟨y3, List.mem_of_getElem? g3, rfl⟩
        have hle := bulk_mem _ _ hy
        have e : Rows.uptoBulk (D i) = Rows.uptoBulkAll (ys.map (·.1)) + 1 := by rw [hD]; simp only [Rows.uptoBulk]
        have e' : s.data.toList.length ≤ Rows.uptoBulk y3.1 := by
          subst e3
          simp only [Rows.uptoBulk]
          omega
        show s.data.toList.length < _
        omega
      · intro o u hu
        match o, hu with
        | 0, hu => cases hu; exact hc0
        | 1, hu => cases hu; exact hc1
        | 2, hu => cases hu; exact hc2
        | 3, hu => cases hu; exact hc3
        | 4, hu => cases hu; exact hc4
        | o + 5, hu => exact absurd hu (by simp [R5.cells])
    obtain ⟨f, hfn⟩ : ∃ f : Nat → R5, ∀ i, i < len → (InI (f i).n ∧ InI (f i).c ∧ (f i).l.length < Rows.uptoBulk (D i)) ∧ ∀ (o : Nat) (u : Value), (f i).cells[o]? = some u → W.cell? (a.add (i * 5 + o)) = some u := by
      refine ⟨fun i => if h : i < len then (pick i h).choose else ⟨0, 0, 0, [], false⟩, fun i h => ?_⟩
      simp only [h, dif_pos]
      exact (pick i h).choose_spec
    have hall : Rows.uptoBulkAll ((List.range len).map D) ≤ Rows.uptoBulk d := by
      rw [hd]; simp only [Rows.uptoBulk]; omega
    refine ⟨some a, _, (List.range len).map f, by rw [List.length_map, List.length_range], ?_, ?_, ?_, ?_⟩
    · intro q hq
      obtain ⟨i, hi', rfl⟩ := List.mem_map.1 hq
      have h1 := hfn i (List.mem_range.1 hi')
      have h2 := bulk_mem _ _ (List.mem_map.2 ⟨i, hi', rfl⟩ : D i ∈ (List.range len).map D)
      exact ⟨h1.1.1, h1.1.2.1, by have := h1.1.2.2; omega⟩
    · have h1 := bulk_len ((List.range len).map D) (fun q hq => by
        obtain ⟨i, hi', rfl⟩ := List.mem_map.1 hq
        have := (hfn i (List.mem_range.1 hi')).1.2.2
        omega)
      simp only [List.length_map, List.length_range] at h1 ⊢
      omega
    · rw [rowR_len]
    · intro h0
      simp only [List.length_map, List.length_range] at h0
      refine ⟨a, rfl, World.block_lt_of_cell? _ a (by simpa [Addr.add] using (hfn 0 h0).2 0 _ rfl), fun j u hu => ?_⟩
      have hj : j < len * 5 := by
        have := (List.getElem?_eq_some_iff.1 hu).1
        rw [rowR_len] at this
        simpa using this
      have hlt : j / 5 < len := by omega
      have hg : ((List.range len).map f)[j / 5]? = some (f (j / 5)) := by simp [hlt]
      have hm5 : j % 5 < 5 := Nat.mod_lt _ (by decide)
      have hcl : (f (j / 5)).cells.length = 5 := rfl
      have hgc : (f (j / 5)).cells[j % 5]? = some ((f (j / 5)).cells[j % 5]'(by omega)) := List.getElem?_eq_getElem (by omega)
      have hr := rowR_at _ _ _ _ _ hg hgc hm5
      have ej : j / 5 * 5 + j % 5 = j := by omega
      rw [ej] at hr
      rw [hr] at hu
      cases hu
      have := (hfn _ hlt).2 _ _ hgc
      rwa [ej] at this
end Go.Proofs.YtemgabmafmehnaaGreatDoor
namespace Go.Proofs.YtemgabmafmehnaaGreatDoor
open Go.ChangeShapes Go.WideShapes Go.Deep Go.RowKit Go.Lib
section
variable {H : Type} {enc : TypeId × Value → H} {P : Program} {w : World} {base b0 : Nat} {spare : Nat → Bool} {held : Bool}
theorem okWide_array {r : Reach} {t e : TypeId} {n : Nat} {v : Value} (ht : P.underlying t = some (.array n e)) (h : Value.okWide P w r b0 t v) : ∃ cs, v = .agg cs ∧ cs.size = P.cellsOf t := by
  simp only [Value.okWide, ht] at h
  obtain ⟨cs, h1, h2, _⟩ := h
  exact ⟨cs, h1, h2⟩
set_option maxRecDepth 100000 in
set_option maxHeartbeats 1000000 in
/-- Five cells that read as a value. -/
theorem read_at {fuel : Nat} {cs : List Value} {x : DataW H × List MemPlace} (h : DataW.trod enc Tryz.prog w base spare held fuel 24 cs = some x) :
    ∃ r : R5, cs = r.cells ∧ InI r.n ∧ InI r.c ∧ r.l.length < Rows.uptoBulk x.1 := by
  obtain ⟨xs, m, _, rfl, hl, hlen, hg⟩ := DataW.trod_struct Tryz.underlying24 h
  have h5 : cs.length = 5 := hl.trans (by kernel_rfl)
  match cs, h5 with
  | [c0, c1, c2, c3, c4], _ =>
    match xs, hlen with
    | [y0, y1, y2, y3, y4], _ =>
      have hone : (∀ fs, Tryz.prog.underlying 24 = some (.struct fs) → oneCellFields Tryz.prog fs = true) := fun fs hfs => by cases Tryz.underlying24.symm.trans hfs; kernel_rfl
      obtain ⟨o0, k0⟩ := hone_of (hone _ Tryz.underlying24) 0 _ rfl
      obtain ⟨o1, k1⟩ := hone_of (hone _ Tryz.underlying24) 1 _ rfl
      obtain ⟨o2, k2⟩ := hone_of (hone _ Tryz.underlying24) 2 _ rfl
      obtain ⟨o3, k3⟩ := hone_of (hone _ Tryz.underlying24) 3 _ rfl
      obtain ⟨o4, k4⟩ := hone_of (hone _ Tryz.underlying24) 4 _ rfl
      have t0 := hg 0 _ rfl
      have t1 := hg 1 _ rfl
      have t2 := hg 2 _ rfl
      have t3 := hg 3 _ rfl
      have t4 := hg 4 _ rfl
      rw [o0, k0] at t0
      rw [o1, k1] at t1
      rw [o2, k2] at t2
      rw [o3, k3] at t3
      rw [o4, k4] at t4
      obtain ⟨k, h0, e0, w0⟩ := DataW.trod_int Tryz.underlying22 t0
      obtain ⟨n, h1, e1, w1⟩ := DataW.trod_int Tryz.underlying3 t1
      obtain ⟨c, h2, e2, w2⟩ := DataW.trod_int Tryz.underlying3 t2
      obtain ⟨s, h3, e3, w3⟩ := DataW.trod_string Tryz.underlying9 t3
      obtain ⟨b, h4, e4⟩ := DataW.trod_bool Tryz.underlying4 t4
      simp at h0 h1 h2 h3 h4
      subst h0 h1 h2 h3 h4
      refine ⟨⟨k, n, c, s.data.toList, b⟩, rfl, bounds_i64 w1, bounds_i64 w2, ?_⟩
      subst e3
      simp only [List.map_cons, List.map_nil, Rows.uptoBulk, Rows.uptoBulkAll]
      show s.data.toList.length < _
      omega
end
set_option maxRecDepth 100000 in
/-- An array of two values that came in: its ten cells. -/
theorem open_two {H : Type} {enc : TypeId × Value → H} {W : World} {base b0 : Nat} {spare : Nat → Bool} {held : Bool} {r : Reach} {v : Value} {d : DataW H} {p : List MemPlace} (hv : Value.okWide Tryz.prog W r b0 65 v) (h : DataW.Trod enc Tryz.prog W base spare held 65 v d p) :
    ∃ x y : R5, v = .agg (x.cells ++ y.cells).toArray ∧ (InI x.n ∧ InI x.c ∧ x.l.length < Rows.uptoBulk d) ∧ (InI y.n ∧ InI y.c ∧ y.l.length < Rows.uptoBulk d) := by
  obtain ⟨cs, rfl, hsz⟩ := okWide_array Tryz.underlying65 hv
  obtain ⟨l⟩ := cs
  obtain ⟨fuel, hf⟩ := h
  obtain ⟨xs, m, _, hx, hl, hlen, hg⟩ := DataW.trod_array Tryz.underlying65 hf
  have h10 : l.length = 10 := hsz.trans (by kernel_rfl)
  have hc : Tryz.prog.cellsOf 24 = 5 := by kernel_rfl
  have e0 := hg 0 (by decide)
  have e1 := hg 1 (by decide)
  rw [hc] at e0 e1
  match xs, hlen with
  | [y0, y1], _ =>
    obtain ⟨x, hx0, i1, i2, i3⟩ := read_at (show _ = some y0 from e0)
    obtain ⟨y, hy0, j1, j2, j3⟩ := read_at (show _ = some y1 from e1)
    have hd : d = .agg [y0.1, y1.1] := (Prod.mk.inj hx).1
    subst hd
    refine ⟨x, y, ?_, ⟨i1, i2, ?_⟩, ⟨j1, j2, ?_⟩⟩
    · rw [← hx0, ← hy0]
      match l, h10 with
      | [a0, a1, a2, a3, a4, a5, a6, a7, a8, a9], _ => simp [Value.cells]
    · simp only [Rows.uptoBulk, Rows.uptoBulkAll]; omega
    · simp only [Rows.uptoBulk, Rows.uptoBulkAll]; omega
end Go.Proofs.YtemgabmafmehnaaGreatDoor
