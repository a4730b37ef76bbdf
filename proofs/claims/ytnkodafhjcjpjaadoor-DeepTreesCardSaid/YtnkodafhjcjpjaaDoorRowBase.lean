/- A world for the witness; trees that came in. No condition beyond what the theorems state. -/
import Derived.Test.YtnkodafhjcjpjaaDoorCards
import Derived.Test.YtnkodafhjcjpjaaDoorTie
import Derived.Test.YtnkodafhjcjpjaaDoorTrees
import Derived.Test.YtnkodafhjcjpjaaDoorLater
import Derived.Test.YtnkodafhjcjpjaaDoorShelf
import Derived.ProofKit
import Derived.Deep.DeepHandedRow
import Derived.Lib.LaidTab
import Derived.Lib.LaidU8T
import Derived.Lib.LaidIn
import Derived.PinnedBridge
import Derived.Lib.SmallJoins
import Derived.OpenShut
import Derived.Deep.Slices
import Derived.Deep.Fields
import Derived.ChangeSame
namespace Go.Proofs.YtnkodafhjcjpjaaDoor
open Go.Joins Go.ChangeShapes Go.WideShapes Go.ChangeAt Go.RowKit Go.Lib Go.Deep
section
variable {H : Type} {enc : TypeId × Value → H} {P : Program} {w : World} {base : Nat} {spare : Nat → Bool} {held : Bool}
theorem open_slice_fields {t e : TypeId} {fs : Array Field} {fuel : Nat} {cs : List Value} {x : DataW H × List MemPlace} (ht : P.underlying t = some (.slice e)) (he : P.underlying e = some (.struct fs))
    (hone : oneCellFields P fs = true) (hC : P.cellsOf e = fs.size) (h : DataW.trod enc P w base spare held fuel t cs = some x) :
    (cs = [.slice none 0 0] ∧ x = (.nil, [])) ∨
    ∃ (a : Addr) (len cap m : Nat) (D : Nat → DataW H) (Pl : Nat → List MemPlace), cs = [.slice (some a) len cap] ∧ base ≤ a.block ∧ len ≤ cap ∧ cap ≤ maxLen ∧ m = (if spare a.block then cap else len) ∧
      x = (.slice ((List.range len).map D) ((List.range (m - len)).map fun j => D (len + j)), MemPlace.row a (m * fs.size) ++ (List.range m).flatMap Pl) ∧
      ∀ i, i < m → ∃ (ys : List (DataW H × List MemPlace)) (n : Nat), D i = .agg (ys.map (·.1)) ∧ Pl i = ys.flatMap (·.2) ∧ ys.length = fs.size ∧
        ∀ (j : Nat) (f : Field), fs[j]? = some f → ∃ (v : Value) (y : DataW H × List MemPlace), w.cell? (a.add (i * fs.size + j)) = some v ∧ ys[j]? = some y ∧ DataW.trod enc P w base spare held n f.type [v] = some y := by
  rcases open_slice ht h with h0 | ⟨a, len, cap, m, n, D, Pl, hcs, hb, hl, hm, hmm, hx, hi⟩
  · exact .inl h0
  · refine .inr ⟨a, len, cap, m, D, Pl, hcs, hb, hl, hm, hmm, by rw [hC] at hx; exact hx, fun i him => ?_⟩
    obtain ⟨cs', hc, ht'⟩ := hi i him
    rw [hC] at hc
    obtain ⟨ys, n', hn', hy, hlen, hyl, hf⟩ := DataW.trod_struct he ht'
    obtain ⟨_, hcl, hat⟩ := World.cells?_some hc
    simp only [Prod.mk.injEq] at hy
    refine ⟨ys, n', hy.1, hy.2, hyl, fun j f hj => ?_⟩
    obtain ⟨ho, hk⟩ := hone_of hone j f hj
    have hjl : j < fs.size := (Array.getElem?_eq_some_iff.1 hj).1
    have hcell := hat j hjl
    have hv : cs'[j]? = some (cs'[j]'(by omega)) := List.getElem?_eq_getElem (by omega)
    have h1 := hf j f hj
    rw [ho, hk] at h1
    have hone' : (cs'.drop j).take 1 = [cs'[j]'(by omega)] := by
      rw [List.drop_eq_getElem_cons (by omega)]
      rfl
    rw [hone'] at h1
    have hys : ys[j]? = some (ys[j]'(by omega)) := List.getElem?_eq_getElem (by omega)
    refine ⟨_, _, ?_, hys, h1.trans hys⟩
    rw [← Go.Deep.add_add, hcell, hv]
end
theorem own : ownKnob Tryd.prog.godebug = none := by kernel_rfl
def bruijn32 : List Int := [0, 1, 28, 2, 29, 14, 24, 3, 30, 22, 20, 15, 25, 17, 4, 8, 31, 27, 13, 23, 21, 19, 16, 7, 26, 12, 18, 6, 11, 5, 10, 9]
def bruijn64 : List Int := [0, 1, 56, 2, 57, 49, 28, 3, 61, 58, 42, 50, 38, 29, 17, 4, 62, 47, 59, 36, 45, 43, 51, 22, 53, 39, 33, 30, 24, 18, 12, 5, 63, 55, 48, 27, 60, 41, 37, 16, 46, 35, 44, 21, 52, 32, 23, 11, 54, 26, 40, 15, 34, 20, 31, 10, 25, 14, 19, 9, 13, 8, 7, 6]
noncomputable def laidWorld (os : Os) : World :=
  let w0 := World.holding Tryd.prog os ⟨#[], #[], []⟩
  let put (h : Array Obj) (g : Nat) (cs : Array Value) : Array Obj := h.modify g fun
    | .cells _ t frozen => .cells cs t frozen
    | o => o
  let h1 := put w0.heap 1 (Lib.pow10Tab.map fun z => Value.int .u64 z).toArray
  let h4 := put h1 2 (bruijn32.map fun z => Value.int .u8 z).toArray
  let h5 := put h4 3 (bruijn64.map fun z => Value.int .u8 z).toArray
  { w0 with heap := h5 }
theorem laid_met (os : Os) (args : Array Value) : laidMet Tryd.prog Rows.deepTreesRow.laid ((laidWorld os).forCall (fun _ _ => 0) ⟨#[], args, []⟩).memory :=
  laidMet_of_run' 8 (by kernel_rfl) (by kernel_rfl)
theorem ba_eq (s : ByteArray) : ba' s.data.toList = s := rfl
theorem bulk_mem {H : Type} : ∀ (l : List (DataW H)) (d : DataW H), d ∈ l → Rows.uptoBulk d ≤ Rows.uptoBulkAll l
  | a :: l, d, h => by
    have e : Rows.uptoBulkAll (a :: l) = Rows.uptoBulk a + Rows.uptoBulkAll l := by simp only [Rows.uptoBulkAll]
    rcases List.mem_cons.1 h with rfl | h
    · omega
    · have := bulk_mem l d h; omega
theorem bulk_pairs {H : Type} (D : Nat → DataW H) (f : Nat → List UInt8 × List UInt8) : ∀ l : List Nat, (∀ i ∈ l, 1 + (f i).1.length + (f i).2.length ≤ Rows.uptoBulk (D i)) → bulkP (l.map f) ≤ Rows.uptoBulkAll (l.map D)
  | [], _ => Nat.zero_le _
  | a :: l, h => by
    have h1 := h a (.head _)
    have h2 := bulk_pairs D f l fun i hi => h i (.tail _ hi)
    have e : Rows.uptoBulkAll ((a :: l).map D) = Rows.uptoBulk (D a) + Rows.uptoBulkAll (l.map D) := by simp only [List.map_cons, Rows.uptoBulkAll]
    rw [List.map_cons, bulkP, e]
    omega
theorem bulk_trees {H : Type} (D : Nat → DataW H) (f : Nat → Tr) : ∀ l : List Nat, (∀ i ∈ l, (f i).pl.bulk ≤ Rows.uptoBulk (D i)) → bulkL (plL (l.map f)) ≤ Rows.uptoBulkAll (l.map D)
  | [], _ => Nat.zero_le _
  | a :: l, h => by
    have h1 := h a (.head _)
    have h2 := bulk_trees D f l fun i hi => h i (.tail _ hi)
    have e : Rows.uptoBulkAll ((a :: l).map D) = Rows.uptoBulk (D a) + Rows.uptoBulkAll (l.map D) := by simp only [List.map_cons, Rows.uptoBulkAll]
    rw [List.map_cons, plL, bulkL, e]
    omega
theorem pick_fn {α : Type} {n : Nat} {p : Nat → α → Prop} (a0 : α) (h : ∀ i, i < n → ∃ x, p i x) : ∃ f : Nat → α, ∀ i, i < n → p i (f i) := by
  refine ⟨fun i => if hi : i < n then (h i hi).choose else a0, fun i hi => ?_⟩
  simp only [hi, dif_pos]
  exact (h i hi).choose_spec
theorem len_str {s : ByteArray} (h : s.size ≤ maxLen) : s.data.toList.length ≤ maxLen := by simpa using h
set_option maxRecDepth 100000 in
/-- A row of pairs that came in. -/
theorem open_pairs {H : Type} {enc : TypeId × Value → H} {W : World} {base fuel : Nat} {held : Bool} {v : Value} {d : DataW H} {p : List MemPlace} (h : DataW.trod enc Tryd.prog W base (fun _ => true) held fuel 23 [v] = some (d, p)) :
    ∃ (A : Option Addr) (cap : Nat) (ps : List (List UInt8 × List UInt8)), v = .slice A ps.length cap ∧ RdP (fun b => b < W.heap.size) W 2 A ps.length (rowP ps) ∧ bulkP ps ≤ Rows.uptoBulk d ∧ ps.length ≤ maxLen ∧ ∀ p ∈ ps, p.1.length ≤ maxLen ∧ p.2.length ≤ maxLen := by
  rcases open_slice_fields Tryd.underlying23 Tryd.underlying32 (by kernel_rfl) (by kernel_rfl) h with ⟨hcs, _⟩ | ⟨a, len, c, m, D, Pl, hcs, _, hl, hcm, hm, hx, hi⟩
  · simp at hcs
    subst hcs
    exact ⟨none, 0, [], rfl, ⟨by simp [rowP], fun h => absurd h (by simp)⟩, Nat.zero_le _, Nat.zero_le _, fun p hp => nomatch hp⟩
  · simp at hcs
    subst hcs
    simp only [if_true] at hm
    subst hm
    have hd := (Prod.mk.inj hx).1
    obtain ⟨f, hf⟩ := pick_fn (n := len) (p := fun i (q : List UInt8 × List UInt8) => W.cell? (a.add (i * 2)) = some (.string (ba' q.1)) ∧ W.cell? (a.add (i * 2 + 1)) = some (.string (ba' q.2)) ∧ 1 + q.1.length + q.2.length ≤ Rows.uptoBulk (D i) ∧ q.1.length ≤ maxLen ∧ q.2.length ≤ maxLen) ([], []) (fun i hlt => by
      obtain ⟨ys, n, hD, _, hyl, hf⟩ := hi i (by omega)
      obtain ⟨v0, y0, hc0, g0, t0⟩ := hf 0 _ rfl
      obtain ⟨v1, y1, hc1, g1, t1⟩ := hf 1 _ rfl
      obtain ⟨s0, h0, e0, w0⟩ := DataW.trod_string Tryd.underlying9 t0
      obtain ⟨s1, h1, e1, w1⟩ := DataW.trod_string Tryd.underlying9 t1
      cases h0
      cases h1
      refine ⟨(s0.data.toList, s1.data.toList), hc0, hc1, ?_, len_str w0, len_str w1⟩
      have hys : ys = [y0, y1] := by
        match ys, hyl, g0, g1 with
        | [a, b], _, g0, g1 => simp at g0 g1; rw [g0, g1]
      rw [hD, hys, e0, e1]
      simp only [List.map_cons, List.map_nil, Rows.uptoBulk, Rows.uptoBulkAll]
      omega)
    have hll : ((List.range len).map f).length = len := by simp
    refine ⟨some a, _, (List.range len).map f, by rw [hll], ⟨by rw [rowP_len], fun h0 => ⟨a, rfl, ?_, fun j u hu => ?_⟩⟩, ?_, by rw [hll]; omega, fun p hp => ?_⟩
    · rw [hll] at h0
      exact World.block_lt_of_cell? _ a (by simpa [Addr.add] using (hf 0 h0).1)
    · have hj : j < len * 2 := by
        have := (List.getElem?_eq_some_iff.1 hu).1
        rw [rowP_len, hll] at this
        exact this
      have hlt : j / 2 < len := by omega
      have hg : ((List.range len).map f)[j / 2]? = some (f (j / 2)) := by simp [hlt]
      obtain ⟨r0, r1⟩ := rowP_at _ _ _ hg
      rcases (by omega : j % 2 = 0 ∨ j % 2 = 1) with e | e
      · have ej : j / 2 * 2 = j := by omega
        rw [ej] at r0
        rw [r0] at hu
        cases hu
        have := (hf _ hlt).1
        rwa [ej] at this
      · have ej : j / 2 * 2 + 1 = j := by omega
        rw [ej] at r1
        rw [r1] at hu
        cases hu
        have := (hf _ hlt).2.1
        rwa [ej] at this
    · have := bulk_pairs D f (List.range len) (fun i hi => (hf i (List.mem_range.1 hi)).2.2.1)
      rw [hd]
      simp only [Rows.uptoBulk]
      omega
    · obtain ⟨i, hi', rfl⟩ := List.mem_map.1 hp
      exact (hf i (List.mem_range.1 hi')).2.2.2
set_option maxRecDepth 100000 in
/-- A tree that came in, cell by cell. -/
theorem open_tree {H : Type} {enc : TypeId × Value → H} {W : World} {base : Nat} {held : Bool} : ∀ (N fuel : Nat) (cs : List Value) (d : DataW H) (p : List MemPlace), Rows.uptoBulk d ≤ N → DataW.trod enc Tryd.prog W base (fun _ => true) held fuel 26 cs = some (d, p) →
    ∃ t : Tr, cs = t.cells ∧ t.In (fun b => b < W.heap.size) W ∧ t.pl.bulk ≤ Rows.uptoBulk d ∧ t.pl.lens ∧ t.Caps := by
  intro N
  induction N with
  | zero =>
    intro fuel cs d p hN h
    obtain ⟨ys, n, _, hy, _, _, _⟩ := DataW.trod_struct Tryd.underlying26 h
    rw [(Prod.mk.inj hy).1] at hN
    simp only [Rows.uptoBulk] at hN
    omega
  | succ N ih =>
    intro fuel cs d p hN h
    obtain ⟨ys, n, _, hy, hlen, hyl, hg⟩ := DataW.trod_struct Tryd.underlying26 h
    have hC : Tryd.prog.cellsOf 26 = 5 := by kernel_rfl
    rw [hC] at hlen
    match cs, hlen with
    | [c0, c1, c2, c3, c4], _ =>
    match ys, hyl with
    | [y0, y1, y2, y3, y4], _ =>
    have t0 : DataW.trod enc Tryd.prog W base (fun _ => true) held n 22 [c0] = some y0 := by simpa [show Tryd.prog.cellsOf 22 = 1 by kernel_rfl] using hg 0 _ rfl
    have t1 : DataW.trod enc Tryd.prog W base (fun _ => true) held n 9 [c1] = some y1 := by simpa [show Tryd.prog.cellsOf 9 = 1 by kernel_rfl] using hg 1 _ rfl
    have t2 : DataW.trod enc Tryd.prog W base (fun _ => true) held n 9 [c2] = some y2 := by simpa [show Tryd.prog.cellsOf 9 = 1 by kernel_rfl] using hg 2 _ rfl
    have t3 : DataW.trod enc Tryd.prog W base (fun _ => true) held n 23 [c3] = some y3 := by simpa [show Tryd.prog.cellsOf 23 = 1 by kernel_rfl] using hg 3 _ rfl
    have t4 : DataW.trod enc Tryd.prog W base (fun _ => true) held n 24 [c4] = some y4 := by simpa [show Tryd.prog.cellsOf 24 = 1 by kernel_rfl] using hg 4 _ rfl
    obtain ⟨k, h0, e0, w0⟩ := DataW.trod_int Tryd.underlying22 t0
    obtain ⟨s1, h1, e1, w1⟩ := DataW.trod_string Tryd.underlying9 t1
    obtain ⟨s2, h2, e2, w2⟩ := DataW.trod_string Tryd.underlying9 t2
    cases h0
    cases h1
    cases h2
    obtain ⟨A, ac, ps, rfl, hA, hbp, hpl, hpm⟩ := open_pairs (d := y3.1) (p := y3.2) t3
    have hd := (Prod.mk.inj hy).1
    have hbd : Rows.uptoBulk d = (s1.data.toList.length + 1) + (s2.data.toList.length + 1) + 1 + Rows.uptoBulk y3.1 + Rows.uptoBulk y4.1 + 1 := by
      rw [hd]
      simp only [List.map_cons, List.map_nil, Rows.uptoBulk, Rows.uptoBulkAll, e0, e1, e2]
      omega
    have hTree : ∃ (K : Option Addr) (kc : Nat) (ks : List Tr), c4 = .slice K ks.length kc ∧ RdP (fun b => b < W.heap.size) W 5 K ks.length (rowT ks) ∧ InL (fun b => b < W.heap.size) W ks ∧ bulkL (plL ks) ≤ Rows.uptoBulk y4.1 ∧ ks.length ≤ maxLen ∧ (∀ t ∈ ks, t.pl.lens) ∧ ks.length ≤ kc ∧ kc ≤ maxLen ∧ ∀ t ∈ ks, t.Caps := by
      rcases open_slice (x := y4) Tryd.underlying24 t4 with ⟨hcs, _⟩ | ⟨a, len, c, m, n', D, Pl, hcs, _, hl, hcm, hm, hx, hi⟩
      · simp at hcs
        subst hcs
        exact ⟨none, 0, [], rfl, ⟨by simp [rowT], fun h => absurd h (by simp)⟩, by simp [InL], Nat.zero_le _, Nat.zero_le _, (fun t ht => nomatch ht), Nat.zero_le _, Nat.zero_le _, fun t ht => nomatch ht⟩
      · simp at hcs
        subst hcs
        simp only [if_true] at hm
        subst hm
        have hd4 := (Prod.mk.inj hx).1
        rw [hC] at hi
        have hall : Rows.uptoBulkAll ((List.range len).map D) ≤ Rows.uptoBulk y4.1 := by
          rw [hd4]
          simp only [Rows.uptoBulk]
          omega
        obtain ⟨f, hf⟩ := pick_fn (n := len) (p := fun i (t : Tr) => (∀ o u, t.cells[o]? = some u → W.cell? (a.add (i * 5 + o)) = some u) ∧ t.In (fun b => b < W.heap.size) W ∧ t.pl.bulk ≤ Rows.uptoBulk (D i) ∧ t.pl.lens ∧ t.Caps) (.mk 0 [] [] none 0 [] none 0 []) (fun i hlt => by
          obtain ⟨cs', hc, ht'⟩ := hi i (by omega)
          obtain ⟨_, hcl, hat⟩ := World.cells?_some hc
          have hDi := bulk_mem _ _ (List.mem_map.2 ⟨i, List.mem_range.2 hlt, rfl⟩ : D i ∈ (List.range len).map D)
          obtain ⟨t, ht, hin, hbk, hle⟩ := ih n' cs' (D i) (Pl i) (by omega) ht'
          refine ⟨t, fun o u hu => ?_, hin, hbk, hle⟩
          have ho : o < 5 := by
            have := (List.getElem?_eq_some_iff.1 hu).1
            rw [← ht] at this
            omega
          have := hat o ho
          rw [ht, hu] at this
          rw [← Go.Deep.add_add]
          exact this)
        have hll : ((List.range len).map f).length = len := by simp
        refine ⟨some a, _, (List.range len).map f, by rw [hll], ⟨by rw [rowT_len], fun h0 => ⟨a, rfl, ?_, fun j u hu => ?_⟩⟩, inL_iff.2 fun t ht => ?_, ?_, by rw [hll]; omega, fun t ht => ?_, by rw [hll]; exact hl, hcm, fun t ht => ?_⟩
        · rw [hll] at h0
          have h5 := (hf 0 h0).1 0
          generalize f 0 = t0 at h5
          obtain ⟨k', n'', v', A', ac', ps', K', kc', ks'⟩ := t0
          exact World.block_lt_of_cell? _ a (by simpa [Addr.add] using h5 _ rfl)
        · have hj : j < len * 5 := by
            have := (List.getElem?_eq_some_iff.1 hu).1
            rw [rowT_len, hll] at this
            exact this
          have hlt : j / 5 < len := by omega
          have hg' : ((List.range len).map f)[j / 5]? = some (f (j / 5)) := by simp [hlt]
          have hcl : (f (j / 5)).cells.length = 5 := by cases f (j / 5); rfl
          have hgc : (f (j / 5)).cells[j % 5]? = some ((f (j / 5)).cells[j % 5]'(by omega)) := List.getElem?_eq_getElem (by omega)
          have hr := rowT_at _ _ _ _ _ hg' hgc (by omega)
          have ej : j / 5 * 5 + j % 5 = j := by omega
          rw [ej] at hr
          rw [hr] at hu
          cases hu
          have := (hf _ hlt).1 _ _ hgc
          rwa [ej] at this
        · obtain ⟨i, hi', rfl⟩ := List.mem_map.1 ht
          exact (hf i (List.mem_range.1 hi')).2.1
        · exact Nat.le_trans (bulk_trees D f (List.range len) (fun i hi => (hf i (List.mem_range.1 hi)).2.2.1)) hall
        · obtain ⟨i, hi', rfl⟩ := List.mem_map.1 ht
          exact (hf i (List.mem_range.1 hi')).2.2.2.1
        · obtain ⟨i, hi', rfl⟩ := List.mem_map.1 ht
          exact (hf i (List.mem_range.1 hi')).2.2.2.2
    obtain ⟨K, kc, ks, rfl, hK, hL, hbk, hkl, hkm, hc1, hc2, hc3⟩ := hTree
    refine ⟨.mk k s1.data.toList s2.data.toList A ac ps K kc ks, rfl, by rw [Tr.In]; exact ⟨hA, hK, hL⟩, ?_, ?_, by rw [Tr.Caps]; exact ⟨hc1, hc2, capsL_of hc3⟩⟩
    · rw [Tr.pl, PT.bulk, hbd]
      omega
    · rw [Tr.pl, PT.lens]
      refine ⟨len_str w1, len_str w2, hpl, by rw [plL_len]; exact hkl, hpm, lensL_iff.2 fun x hx => ?_⟩
      rw [plL_map] at hx
      obtain ⟨t, ht, rfl⟩ := List.mem_map.1 hx
      exact hkm t ht
end Go.Proofs.YtnkodafhjcjpjaaDoor
namespace Go.Proofs.YtnkodafhjcjpjaaDoor
open Go.Joins Go.ChangeShapes Go.WideShapes Go.ChangeAt Go.RowKit Go.Lib Go.Deep
set_option maxRecDepth 100000 in
theorem open_node {H : Type} {enc : TypeId × Value → H} {W : World} {base b0 : Nat} {held : Bool} {r : Reach} {v : Value} {d : DataW H} {p : List MemPlace} (hv : Value.okWide Tryd.prog W r b0 26 v) (h : DataW.Trod enc Tryd.prog W base (fun _ => true) held 26 v d p) :
    ∃ t : Tr, v = t.v ∧ t.In (fun b => b < W.heap.size) W ∧ t.pl.bulk ≤ Rows.uptoBulk d ∧ t.pl.lens ∧ t.Caps := by
  obtain ⟨cs, rfl, hsz⟩ := okWide_struct Tryd.underlying26 hv
  obtain ⟨l⟩ := cs
  obtain ⟨fuel, hf⟩ := h
  have hC : Tryd.prog.cellsOf 26 = 5 := by kernel_rfl
  have hf' : DataW.trod enc Tryd.prog W base (fun _ => true) held fuel 26 l = some (d, p) := by
    match l, hsz.trans hC with
    | [c0, c1, c2, c3, c4], _ => simpa [Value.cells, hC] using hf
  obtain ⟨t, e, hin, hb⟩ := open_tree _ fuel l d p (Nat.le_refl _) hf'
  refine ⟨t, ?_, hin, hb⟩
  subst e
  cases t; rfl
end Go.Proofs.YtnkodafhjcjpjaaDoor
