/- A struct that came in. No condition beyond what the theorems state. -/
import Derived.Test.YtjpopmgnhgancaaDoorKdO
namespace Go.Proofs.YtjpopmgnhgancaaDoor
open Go.Joins Go.ChangeShapes Go.WideShapes Go.ChangeAt Go.RowKit Go.Lib Go.Deep
set_option maxRecDepth 100000
theorem open_row {H : Type} {enc : TypeId × Value → H} {W : World} {base fuel : Nat} {held : Bool} {cs : List Value} {d : DataW H} {p : List MemPlace} (hf : DataW.trod enc Tryd.prog W base (fun _ => true) held fuel 27 cs = some (d, p)) :
    ∃ (A : Option Addr) (cap : Nat) (xs : List It), cs = [.slice A xs.length cap] ∧ IRow6 W A xs ∧ (∀ x ∈ xs, x.s.size ≤ Rows.uptoBulk d ∧ -9223372036854775808 ≤ x.n ∧ x.n ≤ 9223372036854775807) ∧ xs.length ≤ Rows.uptoBulk d := by
  have hC : Tryd.prog.cellsOf 43 = 6 := by kernel_rfl
  rcases open_slice (x := (d, p)) Tryd.underlying27 hf with ⟨hcs, _⟩ | ⟨a, len, cap, m, n', D, Pl, hcs, _, hl, _, hm, hx, hi⟩
  · subst hcs
    exact ⟨none, 0, [], rfl, (fun j x hj => by simp at hj), by simp, by simp⟩
  · subst hcs
    simp only [if_true] at hm
    subst hm
    have hd4 := (Prod.mk.inj hx).1
    rw [hC] at hi
    have hall : Rows.uptoBulkAll ((List.range len).map D) ≤ Rows.uptoBulk d := by
      rw [hd4]
      simp only [Rows.uptoBulk]
      omega
    obtain ⟨f, hf⟩ := pick_fn (n := len) (p := fun i (x : It) => (∀ o u, [Value.int .i64 x.m, .int .i64 x.k, .int .i64 x.n, .int .i64 x.c, .string x.s, .bool x.b][o]? = some u → W.cell? ((a.add (i * 6)).add o) = some u) ∧ x.s.size + 1 ≤ Rows.uptoBulk (D i) ∧ -9223372036854775808 ≤ x.n ∧ x.n ≤ 9223372036854775807) ⟨0, 0, 0, 0, ⟨#[]⟩, false⟩ (fun i hlt => by
      obtain ⟨cs', hc, ht'⟩ := hi i (by omega)
      obtain ⟨_, hcl, hat⟩ := World.cells?_some hc
      obtain ⟨x, ht, hb, hn⟩ := open_item ht'
      refine ⟨x, fun o u hu => ?_, hb, hn⟩
      have ho : o < 6 := by
        have := (List.getElem?_eq_some_iff.1 hu).1
        simpa using this
      have := hat o ho
      rw [ht, hu] at this
      exact this)
    have hll : ((List.range len).map f).length = len := by simp
    refine ⟨some a, _, (List.range len).map f, by rw [hll], fun j x hj => ?_, fun x hx => ?_, ?_⟩
    · have hlt : j < len := by have := (List.getElem?_eq_some_iff.1 hj).1; rwa [hll] at this
      have hg' : ((List.range len).map f)[j]? = some (f j) := by simp [hlt]
      cases hg'.symm.trans hj
      have hc := (hf j hlt).1
      have h0 := hc 0 _ rfl
      exact ⟨a, rfl, by have := World.block_lt_of_cell? _ _ h0; simpa [Addr.add] using this, by simpa [Addr.add] using h0, by simpa [Addr.add] using hc 1 _ rfl, by simpa [Addr.add] using hc 2 _ rfl, by simpa [Addr.add] using hc 3 _ rfl, by simpa [Addr.add] using hc 4 _ rfl, by simpa [Addr.add] using hc 5 _ rfl⟩
    · obtain ⟨i, hi', rfl⟩ := List.mem_map.1 hx
      have h1 := (hf i (List.mem_range.1 hi')).2
      have := bulk_mem _ _ (List.mem_map.2 ⟨i, hi', rfl⟩ : D i ∈ (List.range len).map D)
      exact ⟨by omega, h1.2⟩
    · rw [hll]
      have := bulk_len D (List.range len) fun i hi' => by have := (hf i (List.mem_range.1 hi')).2.1; omega
      rw [List.length_range] at this
      omega
theorem open_kind {H : Type} {enc : TypeId × Value → H} {W : World} {base fuel : Nat} {held : Bool} {c0 c1 c2 : Value} {d : DataW H} {p : List MemPlace} (h : DataW.trod enc Tryd.prog W base (fun _ => true) held fuel 26 [c0, c1, c2] = some (d, p)) :
    ∃ (i o : Int) (l : List UInt8), c0 = .int .i64 i ∧ c1 = .string (ba' l) ∧ c2 = .int .i64 o ∧ l.length ≤ Rows.uptoBulk d := by
  obtain ⟨ys, n, _, hy, _, hyl, hg⟩ := DataW.trod_struct Tryd.underlying26 h
  match ys, hyl with
  | [y0, y1, y2], _ =>
  have u0 : DataW.trod enc Tryd.prog W base (fun _ => true) held n 23 [c0] = some y0 := by simpa [show Tryd.prog.cellsOf 23 = 1 by kernel_rfl] using hg 0 _ rfl
  have u1 : DataW.trod enc Tryd.prog W base (fun _ => true) held n 9 [c1] = some y1 := by simpa [show Tryd.prog.cellsOf 9 = 1 by kernel_rfl] using hg 1 _ rfl
  have u2 : DataW.trod enc Tryd.prog W base (fun _ => true) held n 24 [c2] = some y2 := by simpa [show Tryd.prog.cellsOf 24 = 1 by kernel_rfl] using hg 2 _ rfl
  obtain ⟨i, h0, e0, _⟩ := DataW.trod_int Tryd.underlying23 u0
  obtain ⟨s, h1, e1, _⟩ := DataW.trod_string Tryd.underlying9 u1
  obtain ⟨o, h2, e2, _⟩ := DataW.trod_int Tryd.underlying24 u2
  cases h0; cases h1; cases h2
  refine ⟨i, o, s.data.toList, rfl, rfl, rfl, ?_⟩
  have hd := (Prod.mk.inj hy).1
  rw [hd]
  simp only [List.map_cons, List.map_nil, Rows.uptoBulk, Rows.uptoBulkAll, e0, e1, e2]
  simp
  omega
theorem open_three {H : Type} {enc : TypeId × Value → H} {W : World} {base b0 : Nat} {held : Bool} {r : Reach} {v : Value} {d : DataW H} {p : List MemPlace} (hv : Value.okWide Tryd.prog W r b0 53 v) (h : DataW.Trod enc Tryd.prog W base (fun _ => true) held 53 v d p) :
    ∃ (xi xo yi yo zi zo : Int) (xn yn zn : List UInt8) (B : Option Addr) (kb : Nat) (ys : List It), v = .agg #[.int .i64 xi, .string (ba' xn), .int .i64 xo, .int .i64 yi, .string (ba' yn), .int .i64 yo, .int .i64 zi, .string (ba' zn), .int .i64 zo, .slice B ys.length kb] ∧ IRow6 W B ys ∧ (∀ x ∈ ys, x.s.size ≤ Rows.uptoBulk d ∧ -9223372036854775808 ≤ x.n ∧ x.n ≤ 9223372036854775807) ∧ xn.length ≤ Rows.uptoBulk d ∧ yn.length ≤ Rows.uptoBulk d ∧ zn.length ≤ Rows.uptoBulk d := by
  obtain ⟨cs, rfl, hsz⟩ := okWide_struct Tryd.underlying53 hv
  obtain ⟨fuel, hf⟩ := h
  have hC : Tryd.prog.cellsOf 53 = 10 := by kernel_rfl
  rw [hC] at hsz
  obtain ⟨l⟩ := cs
  match l, hsz with
  | [c0, c1, c2, c3, c4, c5, c6, c7, c8, c9], _ =>
  have hf' : DataW.trod enc Tryd.prog W base (fun _ => true) held fuel 53 [c0, c1, c2, c3, c4, c5, c6, c7, c8, c9] = some (d, p) := by simpa [Value.cells] using hf
  obtain ⟨ys, n, _, hy, hlen, hyl, hg⟩ := DataW.trod_struct Tryd.underlying53 hf'
  match ys, hyl with
  | [y0, y1, y2, y3], _ =>
  have hc26 : Tryd.prog.cellsOf 26 = 3 := by kernel_rfl
  have t0 : DataW.trod enc Tryd.prog W base (fun _ => true) held n 26 [c0, c1, c2] = some y0 := by simpa [hc26] using hg 0 _ rfl
  have t1 : DataW.trod enc Tryd.prog W base (fun _ => true) held n 26 [c3, c4, c5] = some y1 := by simpa [hc26] using hg 1 _ rfl
  have t2 : DataW.trod enc Tryd.prog W base (fun _ => true) held n 26 [c6, c7, c8] = some y2 := by simpa [hc26] using hg 2 _ rfl
  have t3 : DataW.trod enc Tryd.prog W base (fun _ => true) held n 27 [c9] = some y3 := by simpa [show Tryd.prog.cellsOf 27 = 1 by kernel_rfl] using hg 3 _ rfl
  obtain ⟨xi, xo, xn, rfl, rfl, rfl, zx⟩ := open_kind (d := y0.1) (p := y0.2) t0
  obtain ⟨yi, yo, yn, rfl, rfl, rfl, zy⟩ := open_kind (d := y1.1) (p := y1.2) t1
  obtain ⟨zi, zo, zn, rfl, rfl, rfl, zz⟩ := open_kind (d := y2.1) (p := y2.2) t2
  obtain ⟨B, kb, ys, h9, hI, hs, hl⟩ := open_row (d := y3.1) (p := y3.2) t3
  obtain rfl : c9 = _ := (List.cons.inj h9).1
  have hd := (Prod.mk.inj hy).1
  have hb : Rows.uptoBulk y0.1 + Rows.uptoBulk y1.1 + Rows.uptoBulk y2.1 + Rows.uptoBulk y3.1 ≤ Rows.uptoBulk d := by
    rw [hd]
    simp only [List.map_cons, List.map_nil, Rows.uptoBulk, Rows.uptoBulkAll]
    omega
  exact ⟨xi, xo, yi, yo, zi, zo, xn, yn, zn, B, kb, ys, rfl, hI, fun x hx => ⟨by have := (hs x hx).1; omega, (hs x hx).2⟩, by omega, by omega, by omega⟩
end Go.Proofs.YtjpopmgnhgancaaDoor
