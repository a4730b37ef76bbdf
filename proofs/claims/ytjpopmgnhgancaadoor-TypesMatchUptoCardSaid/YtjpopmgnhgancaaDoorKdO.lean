/- Trees and items that came in; the tables. No condition beyond what the theorems state. -/
import Derived.Test.YtjpopmgnhgancaaDoorRowBase
import Derived.Test.YtjpopmgnhgancaaDoorKdJ
import Derived.ChangeSame
import Derived.Test.YtjpopmgnhgancaaDoorKdK
import Derived.Lib.LaidIn
namespace Go.Proofs.YtjpopmgnhgancaaDoor
open Go.Joins Go.ChangeShapes Go.WideShapes Go.ChangeAt Go.RowKit Go.Lib Go.Deep
section
variable {H : Type} {enc : TypeId × Value → H} {P : Program} {w : World} {base : Nat} {spare : Nat → Bool} {held : Bool}
theorem open_slice_fields {t e : TypeId} {fs : Array Field} {fuel : Nat} {cs : List Value} {x : DataW H × List MemPlace} (ht : P.underlying t = some (.slice e)) (he : P.underlying e = some (.struct fs))
    (hone : oneCellFields P fs = true) (hC : P.cellsOf e = fs.size) (h : DataW.trod enc P w base spare held fuel t cs = some x) :
    (cs = [.slice none 0 0] ∧ x = (.nil, [])) ∨
    ∃ (a : Addr) (len cap m : Nat) (D : Nat → DataW H) (Pl : Nat → List MemPlace), cs = [.slice (some a) len cap] ∧ base ≤ a.block ∧ len ≤ cap ∧ cap ≤ maxLen ∧ m = (if spare a.block then cap else len) ∧
      x = (.slice ((List.range len).map D) ((List.range (m - len)).map fun j => D (len + j)), MemPlace.row a (m * fs.size) ++ (List.range m).flatMap Pl) ∧
      ∀ i, i < m → ∃ (ys : List (DataW H × List MemPlace)) (n : Nat), D i = .agg (ys.map (·.1)) ∧ Pl i = ys.flatMap (·.2) ∧ ys.length = fs.size ∧
        ∀ (j : Nat) (f : Field), fs[j]? = some f → ∃ (v : Value) (y : DataW H × List MemPlace), w.cell? (a.add (i * fs.size + j)) = some v ∧ ys[j]? = some y ∧ DataW.trod enc P w base spare held n f.type [v] = some y := by
  rcases open_slice ht h with h0 | ⟨a, len, cap, m, n, D, Pl, hcs, hb, hl, hm, hmm, hx, hi⟩
  · exact .inl h0
  · refine .inr ⟨a, len, cap, m, D, Pl, hcs, hb, hl, hm, hmm, by rw [hC] at hx; exact hx, fun i him => ?_⟩
    obtain ⟨cs', hc, ht'⟩ := hi i him
    rw [hC] at hc
    obtain ⟨ys, n', hn', hy, hlen, hyl, hf⟩ := DataW.trod_struct he ht'
    obtain ⟨_, hcl, hat⟩ := World.cells?_some hc
    simp only [Prod.mk.injEq] at hy
    refine ⟨ys, n', hy.1, hy.2, hyl, fun j f hj => ?_⟩
    obtain ⟨ho, hk⟩ := hone_of hone j f hj
    have hjl : j < fs.size := (Array.getElem?_eq_some_iff.1 hj).1
    have hcell := hat j hjl
    have hv : cs'[j]? = some (cs'[j]'(by omega)) := List.getElem?_eq_getElem (by omega)
    have h1 := hf j f hj
    rw [ho, hk] at h1
    have hone' : (cs'.drop j).take 1 = [cs'[j]'(by omega)] := by
      rw [List.drop_eq_getElem_cons (by omega)]
      rfl
    rw [hone'] at h1
    have hys : ys[j]? = some (ys[j]'(by omega)) := List.getElem?_eq_getElem (by omega)
    refine ⟨_, _, ?_, hys, h1.trans hys⟩
    rw [← Go.Deep.add_add, hcell, hv]
end
theorem ba_eq (s : ByteArray) : ba' s.data.toList = s := rfl
theorem bulk_mem {H : Type} : ∀ (l : List (DataW H)) (d : DataW H), d ∈ l → Rows.uptoBulk d ≤ Rows.uptoBulkAll l
  | a :: l, d, h => by
    have e : Rows.uptoBulkAll (a :: l) = Rows.uptoBulk a + Rows.uptoBulkAll l := by simp only [Rows.uptoBulkAll]
    rcases List.mem_cons.1 h with rfl | h
    · omega
    · have := bulk_mem l d h; omega
theorem bulk_pairs {H : Type} (D : Nat → DataW H) (f : Nat → List UInt8 × List UInt8) : ∀ l : List Nat, (∀ i ∈ l, 1 + (f i).1.length + (f i).2.length ≤ Rows.uptoBulk (D i)) → bulkP (l.map f) ≤ Rows.uptoBulkAll (l.map D)
  | [], _ => Nat.zero_le _
  | a :: l, h => by
    have h1 := h a (.head _)
    have h2 := bulk_pairs D f l fun i hi => h i (.tail _ hi)
    have e : Rows.uptoBulkAll ((a :: l).map D) = Rows.uptoBulk (D a) + Rows.uptoBulkAll (l.map D) := by simp only [List.map_cons, Rows.uptoBulkAll]
    rw [List.map_cons, bulkP, e]
    omega
theorem bulk_trees {H : Type} (D : Nat → DataW H) (f : Nat → Tr) : ∀ l : List Nat, (∀ i ∈ l, (f i).pl.bulk ≤ Rows.uptoBulk (D i)) → bulkL (plL (l.map f)) ≤ Rows.uptoBulkAll (l.map D)
  | [], _ => Nat.zero_le _
  | a :: l, h => by
    have h1 := h a (.head _)
    have h2 := bulk_trees D f l fun i hi => h i (.tail _ hi)
    have e : Rows.uptoBulkAll ((a :: l).map D) = Rows.uptoBulk (D a) + Rows.uptoBulkAll (l.map D) := by simp only [List.map_cons, Rows.uptoBulkAll]
    rw [List.map_cons, plL, bulkL, e]
    omega
theorem pick_fn {α : Type} {n : Nat} {p : Nat → α → Prop} (a0 : α) (h : ∀ i, i < n → ∃ x, p i x) : ∃ f : Nat → α, ∀ i, i < n → p i (f i) := by
  refine ⟨fun i => if hi : i < n then (h i hi).choose else a0, fun i hi => ?_⟩
  simp only [hi, dif_pos]
  exact (h i hi).choose_spec
set_option maxRecDepth 100000 in
/-- A row of pairs that came in. -/
theorem open_pairs {H : Type} {enc : TypeId × Value → H} {W : World} {base fuel : Nat} {held : Bool} {v : Value} {d : DataW H} {p : List MemPlace} (h : DataW.trod enc Tryd.prog W base (fun _ => true) held fuel 63 [v] = some (d, p)) :
    ∃ (A : Option Addr) (cap : Nat) (ps : List (List UInt8 × List UInt8)), v = .slice A ps.length cap ∧ RdP (fun b => b < W.heap.size) W 2 A ps.length (rowP ps) ∧ bulkP ps ≤ Rows.uptoBulk d ∧ ps.length ≤ maxLen ∧ ∀ p ∈ ps, p.1.length ≤ maxLen ∧ p.2.length ≤ maxLen := by
  rcases open_slice_fields Tryd.underlying63 Tryd.underlying101 (by kernel_rfl) (by kernel_rfl) h with ⟨hcs, _⟩ | ⟨a, len, c, m, D, Pl, hcs, _, hl, hcm, hm, hx, hi⟩
  · simp at hcs
    subst hcs
    exact ⟨none, 0, [], rfl, ⟨by simp [rowP], fun h => absurd h (by simp)⟩, Nat.zero_le _, Nat.zero_le _, fun p hp => nomatch hp⟩
  · simp at hcs
    subst hcs
    simp only [if_true] at hm
    subst hm
    have hd := (Prod.mk.inj hx).1
    obtain ⟨f, hf⟩ := pick_fn (n := len) (p := fun i (q : List UInt8 × List UInt8) => W.cell? (a.add (i * 2)) = some (.string (ba' q.1)) ∧ W.cell? (a.add (i * 2 + 1)) = some (.string (ba' q.2)) ∧ 1 + q.1.length + q.2.length ≤ Rows.uptoBulk (D i) ∧ q.1.length ≤ maxLen ∧ q.2.length ≤ maxLen) ([], []) (fun i hlt => by
      obtain ⟨ys, n, hD, _, hyl, hf⟩ := hi i (by omega)
      obtain ⟨v0, y0, hc0, g0, t0⟩ := hf 0 _ rfl
      obtain ⟨v1, y1, hc1, g1, t1⟩ := hf 1 _ rfl
      obtain ⟨s0, h0, e0, w0⟩ := DataW.trod_string Tryd.underlying9 t0
      obtain ⟨s1, h1, e1, w1⟩ := DataW.trod_string Tryd.underlying9 t1
      cases h0
      cases h1
      refine ⟨(s0.data.toList, s1.data.toList), hc0, hc1, ?_, len_str w0, len_str w1⟩
      have hys : ys = [y0, y1] := by
        match ys, hyl, g0, g1 with
        | [a, b], _, g0, g1 => simp at g0 g1; rw [g0, g1]
      rw [hD, hys, e0, e1]
      simp only [List.map_cons, List.map_nil, Rows.uptoBulk, Rows.uptoBulkAll]
      omega)
    have hll : ((List.range len).map f).length = len := by simp
    refine ⟨some a, _, (List.range len).map f, by rw [hll], ⟨by rw [rowP_len], fun h0 => ⟨a, rfl, ?_, fun j u hu => ?_⟩⟩, ?_, by rw [hll]; omega, fun p hp => ?_⟩
    · rw [hll] at h0
      exact World.block_lt_of_cell? _ a (by simpa [Addr.add] using (hf 0 h0).1)
    · have hj : j < len * 2 := by
        have := (List.getElem?_eq_some_iff.1 hu).1
        rw [rowP_len, hll] at this
        exact this
      have hlt : j / 2 < len := by omega
      have hg : ((List.range len).map f)[j / 2]? = some (f (j / 2)) := by simp [hlt]
      obtain ⟨r0, r1⟩ := rowP_at _ _ _ hg
      rcases (by omega : j % 2 = 0 ∨ j % 2 = 1) with e | e
      · have ej : j / 2 * 2 = j := by omega
        rw [ej] at r0
        rw [r0] at hu
        cases hu
        have := (hf _ hlt).1
        rwa [ej] at this
      · have ej : j / 2 * 2 + 1 = j := by omega
        rw [ej] at r1
        rw [r1] at hu
        cases hu
        have := (hf _ hlt).2.1
        rwa [ej] at this
    · have := bulk_pairs D f (List.range len) (fun i hi => (hf i (List.mem_range.1 hi)).2.2.1)
      rw [hd]
      simp only [Rows.uptoBulk]
      omega
    · obtain ⟨i, hi', rfl⟩ := List.mem_map.1 hp
      exact (hf i (List.mem_range.1 hi')).2.2.2
set_option maxRecDepth 100000 in
/-- A tree that came in, cell by cell. -/
theorem open_tree {H : Type} {enc : TypeId × Value → H} {W : World} {base : Nat} {held : Bool} : ∀ (N fuel : Nat) (cs : List Value) (d : DataW H) (p : List MemPlace), Rows.uptoBulk d ≤ N → DataW.trod enc Tryd.prog W base (fun _ => true) held fuel 65 cs = some (d, p) →
    ∃ t : Tr, cs = t.cells ∧ t.In (fun b => b < W.heap.size) W ∧ t.pl.bulk ≤ Rows.uptoBulk d ∧ t.pl.lens := by
  intro N
  induction N with
  | zero =>
    intro fuel cs d p hN h
    obtain ⟨ys, n, _, hy, _, _, _⟩ := DataW.trod_struct Tryd.underlying65 h
    rw [(Prod.mk.inj hy).1] at hN
    simp only [Rows.uptoBulk] at hN
    omega
  | succ N ih =>
    intro fuel cs d p hN h
    obtain ⟨ys, n, _, hy, hlen, hyl, hg⟩ := DataW.trod_struct Tryd.underlying65 h
    have hC : Tryd.prog.cellsOf 65 = 5 := by kernel_rfl
    rw [hC] at hlen
    match cs, hlen with
    | [c0, c1, c2, c3, c4], _ =>
    match ys, hyl with
    | [y0, y1, y2, y3, y4], _ =>
    have t0 : DataW.trod enc Tryd.prog W base (fun _ => true) held n 62 [c0] = some y0 := by simpa [show Tryd.prog.cellsOf 62 = 1 by kernel_rfl] using hg 0 _ rfl
    have t1 : DataW.trod enc Tryd.prog W base (fun _ => true) held n 9 [c1] = some y1 := by simpa [show Tryd.prog.cellsOf 9 = 1 by kernel_rfl] using hg 1 _ rfl
    have t2 : DataW.trod enc Tryd.prog W base (fun _ => true) held n 9 [c2] = some y2 := by simpa [show Tryd.prog.cellsOf 9 = 1 by kernel_rfl] using hg 2 _ rfl
    have t3 : DataW.trod enc Tryd.prog W base (fun _ => true) held n 63 [c3] = some y3 := by simpa [show Tryd.prog.cellsOf 63 = 1 by kernel_rfl] using hg 3 _ rfl
    have t4 : DataW.trod enc Tryd.prog W base (fun _ => true) held n 22 [c4] = some y4 := by simpa [show Tryd.prog.cellsOf 22 = 1 by kernel_rfl] using hg 4 _ rfl
    obtain ⟨k, h0, e0, w0⟩ := DataW.trod_int Tryd.underlying62 t0
    obtain ⟨s1, h1, e1, w1⟩ := DataW.trod_string Tryd.underlying9 t1
    obtain ⟨s2, h2, e2, w2⟩ := DataW.trod_string Tryd.underlying9 t2
    cases h0
    cases h1
    cases h2
    obtain ⟨A, ac, ps, rfl, hA, hbp, hpl, hpm⟩ := open_pairs (d := y3.1) (p := y3.2) t3
    have hd := (Prod.mk.inj hy).1
    have hbd : Rows.uptoBulk d = (s1.data.toList.length + 1) + (s2.data.toList.length + 1) + 1 + Rows.uptoBulk y3.1 + Rows.uptoBulk y4.1 + 1 := by
      rw [hd]
      simp only [List.map_cons, List.map_nil, Rows.uptoBulk, Rows.uptoBulkAll, e0, e1, e2]
      omega
    have hTree : ∃ (K : Option Addr) (kc : Nat) (ks : List Tr), c4 = .slice K ks.length kc ∧ RdP (fun b => b < W.heap.size) W 5 K ks.length (rowT ks) ∧ InL (fun b => b < W.heap.size) W ks ∧ bulkL (plL ks) ≤ Rows.uptoBulk y4.1 ∧ ks.length ≤ maxLen ∧ ∀ t ∈ ks, t.pl.lens := by
      rcases open_slice (x := y4) Tryd.underlying22 t4 with ⟨hcs, _⟩ | ⟨a, len, c, m, n', D, Pl, hcs, _, hl, hcm, hm, hx, hi⟩
      · simp at hcs
        subst hcs
        exact ⟨none, 0, [], rfl, ⟨by simp [rowT], fun h => absurd h (by simp)⟩, by simp [InL], Nat.zero_le _, Nat.zero_le _, fun t ht => nomatch ht⟩
      · simp at hcs
        subst hcs
        simp only [if_true] at hm
        subst hm
        have hd4 := (Prod.mk.inj hx).1
        rw [hC] at hi
        have hall : Rows.uptoBulkAll ((List.range len).map D) ≤ Rows.uptoBulk y4.1 := by
          rw [hd4]
          simp only [Rows.uptoBulk]
          omega
        obtain ⟨f, hf⟩ := pick_fn (n := len) (p := fun i (t : Tr) => (∀ o u, t.cells[o]? = some u → W.cell? (a.add (i * 5 + o)) = some u) ∧ t.In (fun b => b < W.heap.size) W ∧ t.pl.bulk ≤ Rows.uptoBulk (D i) ∧ t.pl.lens) (.mk 0 [] [] none 0 [] none 0 []) (fun i hlt => by
          obtain ⟨cs', hc, ht'⟩ := hi i (by omega)
          obtain ⟨_, hcl, hat⟩ := World.cells?_some hc
          have hDi := bulk_mem _ _ (List.mem_map.2 ⟨i, List.mem_range.2 hlt, rfl⟩ : D i ∈ (List.range len).map D)
          obtain ⟨t, ht, hin, hbk, hle⟩ := ih n' cs' (D i) (Pl i) (by omega) ht'
          refine ⟨t, fun o u hu => ?_, hin, hbk, hle⟩
          have ho : o < 5 := by
            have := (List.getElem?_eq_some_iff.1 hu).1
            rw [← ht] at this
            omega
          have := hat o ho
          rw [ht, hu] at this
          rw [← Go.Deep.add_add]
          exact this)
        have hll : ((List.range len).map f).length = len := by simp
        refine ⟨some a, _, (List.range len).map f, by rw [hll], ⟨by rw [rowT_len], fun h0 => ⟨a, rfl, ?_, fun j u hu => ?_⟩⟩, inL_iff.2 fun t ht => ?_, ?_, by rw [hll]; omega, fun t ht => ?_⟩
        · rw [hll] at h0
          have h5 := (hf 0 h0).1 0
          generalize f 0 = t0 at h5
          obtain ⟨k', n'', v', A', ac', ps', K', kc', ks'⟩ := t0
          exact World.block_lt_of_cell? _ a (by simpa [Addr.add] using h5 _ rfl)
        · have hj : j < len * 5 := by
            have := (List.getElem?_eq_some_iff.1 hu).1
            rw [rowT_len, hll] at this
            exact this
          have hlt : j / 5 < len := by omega
          have hg' : ((List.range len).map f)[j / 5]? = some (f (j / 5)) := by simp [hlt]
          have hcl : (f (j / 5)).cells.length = 5 := by cases f (j / 5); rfl
          have hgc : (f (j / 5)).cells[j % 5]? = some ((f (j / 5)).cells[j % 5]'(by omega)) := List.getElem?_eq_getElem (by omega)
          have hr := rowT_at _ _ _ _ _ hg' hgc (by omega)
          have ej : j / 5 * 5 + j % 5 = j := by omega
          rw [ej] at hr
          rw [hr] at hu
          cases hu
          have := (hf _ hlt).1 _ _ hgc
          rwa [ej] at this
        · obtain ⟨i, hi', rfl⟩ := List.mem_map.1 ht
          exact (hf i (List.mem_range.1 hi')).2.1
        · exact Nat.le_trans (bulk_trees D f (List.range len) (fun i hi => (hf i (List.mem_range.1 hi)).2.2.1)) hall
        · obtain ⟨i, hi', rfl⟩ := List.mem_map.1 ht
          exact (hf i (List.mem_range.1 hi')).2.2.2
    obtain ⟨K, kc, ks, rfl, hK, hL, hbk, hkl, hkm⟩ := hTree
    refine ⟨.mk k s1.data.toList s2.data.toList A ac ps K kc ks, rfl, by rw [Tr.In]; exact ⟨hA, hK, hL⟩, ?_, ?_⟩
    · rw [Tr.pl, PT.bulk, hbd]
      omega
    · rw [Tr.pl, PT.lens]
      refine ⟨len_str w1, len_str w2, hpl, by rw [plL_len]; exact hkl, hpm, lensL_iff.2 fun x hx => ?_⟩
      rw [plL_map] at hx
      obtain ⟨t, ht, rfl⟩ := List.mem_map.1 hx
      exact hkm t ht

set_option maxRecDepth 100000 in
theorem open_trees {H : Type} {enc : TypeId × Value → H} {W : World} {base b0 : Nat} {held : Bool} {r : Reach} {v : Value} {d : DataW H} {p : List MemPlace} (hv : Value.okWide Tryd.prog W r b0 22 v) (h : DataW.Trod enc Tryd.prog W base (fun _ => true) held 22 v d p) :
    ∃ (A : Option Addr) (cap : Nat) (ts : List Tr), v = .slice A ts.length cap ∧ RdP (fun b => b < W.heap.size) W 5 A ts.length (rowT ts) ∧ (∀ t ∈ ts, t.In (fun b => b < W.heap.size) W) ∧ ∀ t ∈ ts, t.pl.bulk ≤ Rows.uptoBulk d ∧ t.pl.lens := by
  obtain ⟨A, len, cap, rfl⟩ := okWide_slice Tryd.underlying22 hv
  obtain ⟨fuel, hf⟩ := h
  have hC : Tryd.prog.cellsOf 65 = 5 := by kernel_rfl
  rcases open_slice (x := (d, p)) Tryd.underlying22 hf with ⟨hcs, _⟩ | ⟨a, l, c, m, n', D, Pl, hcs, _, hl, _, hm, hx, hi⟩
  · simp [Value.cells] at hcs
    obtain ⟨rfl, rfl, rfl⟩ := hcs
    exact ⟨none, 0, [], rfl, ⟨by simp [rowT], fun h => absurd h (by simp)⟩, by simp, by simp⟩
  · simp [Value.cells] at hcs
    obtain ⟨rfl, rfl, rfl⟩ := hcs
    simp only [if_true] at hm
    subst hm
    have hd4 := (Prod.mk.inj hx).1
    rw [hC] at hi
    have hall : Rows.uptoBulkAll ((List.range len).map D) ≤ Rows.uptoBulk d := by
      rw [hd4]
      simp only [Rows.uptoBulk]
      omega
    obtain ⟨f, hf⟩ := pick_fn (n := len) (p := fun i (t : Tr) => (∀ o u, t.cells[o]? = some u → W.cell? (a.add (i * 5 + o)) = some u) ∧ t.In (fun b => b < W.heap.size) W ∧ t.pl.bulk ≤ Rows.uptoBulk (D i) ∧ t.pl.lens) (.mk 0 [] [] none 0 [] none 0 []) (fun i hlt => by
      obtain ⟨cs', hc, ht'⟩ := hi i (by omega)
      obtain ⟨_, hcl, hat⟩ := World.cells?_some hc
      obtain ⟨t, ht, hin, hbk⟩ := open_tree _ n' cs' (D i) (Pl i) (Nat.le_refl _) ht'
      refine ⟨t, fun o u hu => ?_, hin, hbk⟩
      have ho : o < 5 := by
        have := (List.getElem?_eq_some_iff.1 hu).1
        rw [← ht] at this
        omega
      have := hat o ho
      rw [ht, hu] at this
      rw [← Go.Deep.add_add]
      exact this)
    have hll : ((List.range len).map f).length = len := by simp
    refine ⟨some a, _, (List.range len).map f, by rw [hll], ⟨by rw [rowT_len], fun h0 => ⟨a, rfl, ?_, fun j u hu => ?_⟩⟩, fun t ht => ?_, fun t ht => ?_⟩
    · rw [hll] at h0
      have h5 := (hf 0 h0).1 0
      generalize f 0 = t0 at h5
      obtain ⟨k', n'', v', A', ac', ps', K', kc', ks'⟩ := t0
      exact World.block_lt_of_cell? _ a (by simpa [Addr.add] using h5 _ rfl)
    · have hj : j < len * 5 := by
        have := (List.getElem?_eq_some_iff.1 hu).1
        rw [rowT_len, hll] at this
        exact this
      have hlt : j / 5 < len := by omega
      have hg' : ((List.range len).map f)[j / 5]? = some (f (j / 5)) := by simp [hlt]
      have hcl : (f (j / 5)).cells.length = 5 := by cases f (j / 5); rfl
      have hgc : (f (j / 5)).cells[j % 5]? = some ((f (j / 5)).cells[j % 5]'(by omega)) := List.getElem?_eq_getElem (by omega)
      have hr := rowT_at _ _ _ _ _ hg' hgc (by omega)
      have ej : j / 5 * 5 + j % 5 = j := by omega
      rw [ej] at hr
      rw [hr] at hu
      cases hu
      have := (hf _ hlt).1 _ _ hgc
      rwa [ej] at this
    · obtain ⟨i, hi', rfl⟩ := List.mem_map.1 ht
      exact (hf i (List.mem_range.1 hi')).2.1
    · obtain ⟨i, hi', rfl⟩ := List.mem_map.1 ht
      have h1 := (hf i (List.mem_range.1 hi')).2.2
      have := bulk_mem _ _ (List.mem_map.2 ⟨i, hi', rfl⟩ : D i ∈ (List.range len).map D)
      exact ⟨by omega, h1.2⟩
end Go.Proofs.YtjpopmgnhgancaaDoor
namespace Go.Proofs.YtjpopmgnhgancaaDoor
open Go.Joins Go.ChangeShapes Go.WideShapes Go.ChangeAt Go.RowKit Go.Lib Go.Deep
set_option maxRecDepth 100000
theorem bulk_len {H : Type} (D : Nat → DataW H) : ∀ l : List Nat, (∀ i ∈ l, 1 ≤ Rows.uptoBulk (D i)) → l.length ≤ Rows.uptoBulkAll (l.map D)
  | [], _ => Nat.zero_le _
  | a :: l, h => by
    have h1 := h a (.head _)
    have h2 := bulk_len D l fun i hi => h i (.tail _ hi)
    have e : Rows.uptoBulkAll ((a :: l).map D) = Rows.uptoBulk (D a) + Rows.uptoBulkAll (l.map D) := by simp only [List.map_cons, Rows.uptoBulkAll]
    rw [List.length_cons, e]
    omega
theorem wf64 {z : Int} (h : (Lit.int .i64 z).wf = true) : -9223372036854775808 ≤ z ∧ z ≤ 9223372036854775807 := by
  simp [Lit.wf] at h
  have e1 : IntKind.i64.min = -9223372036854775808 := by decide
  have e2 : IntKind.i64.max = 9223372036854775807 := by decide
  exact ⟨by omega, by omega⟩
theorem open_item {H : Type} {enc : TypeId × Value → H} {W : World} {base fuel : Nat} {held : Bool} {cs : List Value} {d : DataW H} {p : List MemPlace} (h : DataW.trod enc Tryd.prog W base (fun _ => true) held fuel 43 cs = some (d, p)) :
    ∃ x : It, cs = [.int .i64 x.m, .int .i64 x.k, .int .i64 x.n, .int .i64 x.c, .string x.s, .bool x.b] ∧ x.s.size + 1 ≤ Rows.uptoBulk d ∧ -9223372036854775808 ≤ x.n ∧ x.n ≤ 9223372036854775807 := by
  obtain ⟨ys, n, _, hy, hlen, hyl, hg⟩ := DataW.trod_struct Tryd.underlying43 h
  have hC : Tryd.prog.cellsOf 43 = 6 := by kernel_rfl
  rw [hC] at hlen
  match cs, hlen with
  | [c0, c1, c2, c3, c4, c5], _ =>
  match ys, hyl with
  | [y0, y1], _ =>
  have t0 : DataW.trod enc Tryd.prog W base (fun _ => true) held n 3 [c0] = some y0 := by simpa [show Tryd.prog.cellsOf 3 = 1 by kernel_rfl] using hg 0 _ rfl
  have t1 : DataW.trod enc Tryd.prog W base (fun _ => true) held n 41 [c1, c2, c3, c4, c5] = some y1 := by simpa [show Tryd.prog.cellsOf 41 = 5 by kernel_rfl] using hg 1 _ rfl
  obtain ⟨zs, n1, _, hz, _, hzl, hk⟩ := DataW.trod_struct Tryd.underlying41 t1
  match zs, hzl with
  | [z0, z1, z2, z3, z4], _ =>
  have u0 : DataW.trod enc Tryd.prog W base (fun _ => true) held n1 39 [c1] = some z0 := by simpa [show Tryd.prog.cellsOf 39 = 1 by kernel_rfl] using hk 0 _ rfl
  have u1 : DataW.trod enc Tryd.prog W base (fun _ => true) held n1 3 [c2] = some z1 := by simpa [show Tryd.prog.cellsOf 3 = 1 by kernel_rfl] using hk 1 _ rfl
  have u2 : DataW.trod enc Tryd.prog W base (fun _ => true) held n1 3 [c3] = some z2 := by simpa [show Tryd.prog.cellsOf 3 = 1 by kernel_rfl] using hk 2 _ rfl
  have u3 : DataW.trod enc Tryd.prog W base (fun _ => true) held n1 9 [c4] = some z3 := by simpa [show Tryd.prog.cellsOf 9 = 1 by kernel_rfl] using hk 3 _ rfl
  have u4 : DataW.trod enc Tryd.prog W base (fun _ => true) held n1 4 [c5] = some z4 := by simpa [show Tryd.prog.cellsOf 4 = 1 by kernel_rfl] using hk 4 _ rfl
  obtain ⟨m, h0, e0, _⟩ := DataW.trod_int Tryd.underlying3 t0
  obtain ⟨k, h1, e1, _⟩ := DataW.trod_int Tryd.underlying39 u0
  obtain ⟨z, h2, e2, w2⟩ := DataW.trod_int Tryd.underlying3 u1
  obtain ⟨c, h3, e3, _⟩ := DataW.trod_int Tryd.underlying3 u2
  obtain ⟨s, h4, e4, _⟩ := DataW.trod_string Tryd.underlying9 u3
  obtain ⟨b, h5, e5⟩ := DataW.trod_bool Tryd.underlying4 u4
  cases h0; cases h1; cases h2; cases h3; cases h4; cases h5
  refine ⟨⟨m, k, z, c, s, b⟩, rfl, ?_, wf64 w2⟩
  have hd := (Prod.mk.inj hy).1
  rw [hz] at hd
  rw [hd]
  simp only [List.map_cons, List.map_nil, Rows.uptoBulk, Rows.uptoBulkAll, e0, e1, e2, e3, e4, e5]
  simp
  omega
theorem open_items {H : Type} {enc : TypeId × Value → H} {W : World} {base b0 : Nat} {held : Bool} {r : Reach} {v : Value} {d : DataW H} {p : List MemPlace} (hv : Value.okWide Tryd.prog W r b0 27 v) (h : DataW.Trod enc Tryd.prog W base (fun _ => true) held 27 v d p) :
    ∃ (A : Option Addr) (cap : Nat) (xs : List It), v = .slice A xs.length cap ∧ IRow6 W A xs ∧ (∀ x ∈ xs, x.s.size ≤ Rows.uptoBulk d ∧ -9223372036854775808 ≤ x.n ∧ x.n ≤ 9223372036854775807) ∧ xs.length ≤ Rows.uptoBulk d := by
  obtain ⟨A, len, cap, rfl⟩ := okWide_slice Tryd.underlying27 hv
  obtain ⟨fuel, hf⟩ := h
  have hC : Tryd.prog.cellsOf 43 = 6 := by kernel_rfl
  rcases open_slice (x := (d, p)) Tryd.underlying27 hf with ⟨hcs, _⟩ | ⟨a, l, c, m, n', D, Pl, hcs, _, hl, _, hm, hx, hi⟩
  · simp [Value.cells] at hcs
    obtain ⟨rfl, rfl, rfl⟩ := hcs
    exact ⟨none, 0, [], rfl, (fun j x hj => by simp at hj), by simp, by simp⟩
  · simp [Value.cells] at hcs
    obtain ⟨rfl, rfl, rfl⟩ := hcs
    simp only [if_true] at hm
    subst hm
    have hd4 := (Prod.mk.inj hx).1
    rw [hC] at hi
    have hall : Rows.uptoBulkAll ((List.range len).map D) ≤ Rows.uptoBulk d := by
      rw [hd4]
      simp only [Rows.uptoBulk]
      omega
    obtain ⟨f, hf⟩ := pick_fn (n := len) (p := fun i (x : It) => (∀ o u, [Value.int .i64 x.m, .int .i64 x.k, .int .i64 x.n, .int .i64 x.c, .string x.s, .bool x.b][o]? = some u → W.cell? ((a.add (i * 6)).add o) = some u) ∧ x.s.size + 1 ≤ Rows.uptoBulk (D i) ∧ -9223372036854775808 ≤ x.n ∧ x.n ≤ 9223372036854775807) ⟨0, 0, 0, 0, ⟨#[]⟩, false⟩ (fun i hlt => by
      obtain ⟨cs', hc, ht'⟩ := hi i (by omega)
      obtain ⟨_, hcl, hat⟩ := World.cells?_some hc
      obtain ⟨x, ht, hb, hn⟩ := open_item ht'
      refine ⟨x, fun o u hu => ?_, hb, hn⟩
      have ho : o < 6 := by
        have := (List.getElem?_eq_some_iff.1 hu).1
        simpa using this
      have := hat o ho
      rw [ht, hu] at this
      exact this)
    have hll : ((List.range len).map f).length = len := by simp
    refine ⟨some a, _, (List.range len).map f, by rw [hll], fun j x hj => ?_, fun x hx => ?_, ?_⟩
    · have hlt : j < len := by have := (List.getElem?_eq_some_iff.1 hj).1; rwa [hll] at this
      have hg' : ((List.range len).map f)[j]? = some (f j) := by simp [hlt]
      cases hg'.symm.trans hj
      have hc := (hf j hlt).1
      have h0 := hc 0 _ rfl
      exact ⟨a, rfl, by have := World.block_lt_of_cell? _ _ h0; simpa [Addr.add] using this, by simpa [Addr.add] using h0, by simpa [Addr.add] using hc 1 _ rfl, by simpa [Addr.add] using hc 2 _ rfl, by simpa [Addr.add] using hc 3 _ rfl, by simpa [Addr.add] using hc 4 _ rfl, by simpa [Addr.add] using hc 5 _ rfl⟩
    · obtain ⟨i, hi', rfl⟩ := List.mem_map.1 hx
      have h1 := (hf i (List.mem_range.1 hi')).2
      have := bulk_mem _ _ (List.mem_map.2 ⟨i, hi', rfl⟩ : D i ∈ (List.range len).map D)
      exact ⟨by omega, h1.2⟩
    · rw [hll]
      have := bulk_len D (List.range len) fun i hi' => by have := (hf i (List.mem_range.1 hi')).2.1; omega
      rw [List.length_range] at this
      omega
end Go.Proofs.YtjpopmgnhgancaaDoor
namespace Go.Proofs.YtjpopmgnhgancaaDoor
open Go.Joins Go.ChangeShapes Go.WideShapes Go.ChangeAt Go.RowKit Go.Lib Go.Deep
set_option maxRecDepth 100000
def onTab : List Int := [13, 7, 8, 9, 10, 11]
def oaTab : List Int := [0, 1, 2, 3, 4, 5]
theorem tk_of' {W : World} (hn : VarReads Tryd.prog W "espalier/types.leastOfNode" Rows.laid_espalier_types_leastOfNode) (ha : VarReads Tryd.prog W "espalier/types.leastOfAtom" Rows.laid_espalier_types_leastOfAtom) : TK2 W := by
  obtain ⟨g', t', cs, fuel, p, hg', ht', hvar, hd⟩ := hn
  have hg : Tryd.prog.globalNamed "espalier/types.leastOfNode" = some 0 := by kernel_rfl
  obtain rfl := Option.some.inj (hg.symm.trans hg')
  have hty : (Tryd.prog.globals[0]?).map (·.type) = some 80 := by kernel_rfl
  obtain rfl := Option.some.inj (hty.symm.trans ht')
  have hdat : (Rows.laid_espalier_types_leastOfNode : DataW Unit) = Lib.tabData .i64 onTab := rfl
  rw [hdat] at hd
  have hcs := Lib.cells_of_tab Tryd.underlying80 Tryd.underlying23 (by kernel_rfl) (by kernel_rfl) hd
  obtain ⟨gu', tu', cu, fu, pu, hgu', htu', hvaru, hdu⟩ := ha
  have hgu : Tryd.prog.globalNamed "espalier/types.leastOfAtom" = some 1 := by kernel_rfl
  obtain rfl := Option.some.inj (hgu.symm.trans hgu')
  have htyu : (Tryd.prog.globals[1]?).map (·.type) = some 80 := by kernel_rfl
  obtain rfl := Option.some.inj (htyu.symm.trans htu')
  have hdatu : (Rows.laid_espalier_types_leastOfAtom : DataW Unit) = Lib.tabData .i64 oaTab := rfl
  rw [hdatu] at hdu
  have hcu := Lib.cells_of_tab Tryd.underlying80 Tryd.underlying23 (by kernel_rfl) (by kernel_rfl) hdu
  refine ⟨fun j hj => ?_, fun j hj => ?_⟩
  · have := World.var?_cell hg hvar j
    rw [← Array.getElem?_toList, hcs] at this
    rw [this]
    rcases (by omega : j = 0 ∨ j = 1 ∨ j = 2 ∨ j = 3 ∨ j = 4 ∨ j = 5) with rfl | rfl | rfl | rfl | rfl | rfl <;> rfl
  · have := World.var?_cell hgu hvaru j
    rw [← Array.getElem?_toList, hcu] at this
    rw [this]
    rcases (by omega : j = 0 ∨ j = 1 ∨ j = 2 ∨ j = 3 ∨ j = 4 ∨ j = 5) with rfl | rfl | rfl | rfl | rfl | rfl <;> rfl
theorem acc_eq : (Rows.laid_unicode_utf8_acceptRanges : DataW Unit) = acceptData := by kernel_rfl
theorem tabs_of' {W : World} (hf : VarReads Tryd.prog W "unicode/utf8.first" Rows.laid_unicode_utf8_first) (ha : VarReads Tryd.prog W "unicode/utf8.acceptRanges" Rows.laid_unicode_utf8_acceptRanges) : tabs W :=
  utf8Tabs_of_readsT (ρ := Tryd.lays196_ren) (U8Types.of196 Tryd.lays196) ⟨by kernel_rfl, by kernel_rfl, by kernel_rfl, by kernel_rfl, by kernel_rfl, by kernel_rfl, by kernel_rfl⟩
    (by rwa [show Rows.laid_unicode_utf8_first = firstData from Pinned.utf8First_eq] at hf)
    (by rwa [acc_eq] at ha)
end Go.Proofs.YtjpopmgnhgancaaDoor
namespace Go.Proofs.YtjpopmgnhgancaaDoor
open Go.ChangeShapes Go.WideShapes Go.ChangeAt Go.RowKit Go.Lib
namespace Kinds
theorem te_of {W : World} (h : laidMetH Tryd.prog Rows.typesKindsUptoRow.laid W) : TE W :=
  te_of' (Lib.laidMet.reads h (n := "espalier/types.unseen") (.tail _ (.head _))) (Lib.laidMet.reads h (n := "espalier/types.leastAbove") (.tail _ (.tail _ (.tail _ (.tail _ (.head _))))))
theorem tk_of {W : World} (h : laidMetH Tryd.prog Rows.typesKindsUptoRow.laid W) : TK2 W :=
  tk_of' (Lib.laidMet.reads h (n := "espalier/types.leastOfNode") (.tail _ (.tail _ (.tail _ (.head _))))) (Lib.laidMet.reads h (n := "espalier/types.leastOfAtom") (.tail _ (.tail _ (.head _))))
theorem tabs_of {W : World} (h : laidMetH Tryd.prog Rows.typesKindsUptoRow.laid W) : tabs W :=
  tabs_of' (Lib.laidMet.reads h (n := "unicode/utf8.first") (.tail _ (.tail _ (.tail _ (.tail _ (.tail _ (.head _))))))) (Lib.laidMet.reads h (n := "unicode/utf8.acceptRanges") (.head _))
noncomputable def laidWorld (os : Os) : World :=
  let w0 := World.holding Tryd.prog os ⟨#[], #[], []⟩
  let put (h : Array Obj) (g : Nat) (cs : Array Value) : Array Obj := h.modify g fun
    | .cells _ t frozen => .cells cs t frozen
    | o => o
  let h1 := put w0.heap 2 #[.int .i64 2, .int .i64 0]
  let h2 := put h1 3 (abTab.map fun z => Value.int .i64 z).toArray
  let h3 := put h2 0 (onTab.map fun z => Value.int .i64 z).toArray
  let h4 := put h3 1 (oaTab.map fun z => Value.int .i64 z).toArray
  let h5 := put h4 4 (Lib.firstTab.map fun z => Value.int .u8 z).toArray
  let h6 := put h5 5 ((List.range 16).flatMap fun i => [Value.int .u8 (Lib.accLo i), Value.int .u8 (Lib.accHi i)]).toArray
  { w0 with heap := h6 }
theorem laid_met (os : Os) (args : Array Value) : laidMet Tryd.prog Rows.typesKindsUptoRow.laid ((laidWorld os).forCall (fun _ _ => 0) ⟨#[], args, []⟩).memory :=
  laidMet_of_run' 8 (by kernel_rfl) (by kernel_rfl)
theorem reads (os : Os) {H : Type} (enc : TypeId × Value → H) : ∃ places, DataW.whole enc Tryd.prog ((laidWorld os).forCall (fun _ _ => 0) ⟨#[], #[.slice none 0 0, .slice none 0 0, .agg #[.int .i64 0, .string ⟨#[]⟩, .int .i64 0]], []⟩).memory Tryd.f7.params.toList Rows.typesKindsSpec.vars false #[Value.slice none 0 0, .slice none 0 0, .agg #[.int .i64 0, .string ⟨#[]⟩, .int .i64 0]].toList 8 = some ([.nil, .nil, .agg [.lit (.int .i64 0), .lit (.string []), .lit (.int .i64 0)]], [], places) :=
  ⟨[], by kernel_rfl⟩
end Kinds
end Go.Proofs.YtjpopmgnhgancaaDoor
