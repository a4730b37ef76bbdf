/- The reference's digits of a whole number. No condition beyond what the theorems state. -/
import Derived.Test.YtmggffhecopgiaaDoorAwake
import Derived.Test.YtmggffhecopgiaaDoorDigitSums
import Derived.Deep.LoopGhost
import Derived.Laws.AppendOwn
import Derived.OwnWalk
namespace Go.Proofs
open Go.Shelf Go.RowKit Go.Proofs.Wide Go.Proofs.Dig
theorem int_info : (Tryd.prog.info? 3).map (fun i => (i.zero, i.size, i.bytes)) = some (some (.int .i64 0), 1, 8) := by kernel_rfl
def cellsD (l : List Int) : List Value := l.map fun d => .int .i64 d
theorem cellsD_snoc (l : List Int) (d : Int) : cellsD (l ++ [d]) = cellsD l ++ [.int .i64 d] := by unfold cellsD; simp
theorem cell_one_new (w : World) (v : Value) (t : TypeId) : ∀ j u, ([v] : List Value)[j]? = some u → (w.alloc (.cells #[v] t)).cell? ((⟨w.heap.size, 0, none⟩ : Addr).add j) = some u := by
  intro j u h
  cases j with
  | zero => injection h with h; subst h; simp [Addr.add, World.cell?_alloc_new]
  | succ j => simp at h
/-- A whole number comes back: its sign, its digits. -/
def OfOut (B : Nat) (w0 : World) (neg : Bool) (l : List Int) (e : Ending) (w' : World) : Prop := ∃ v, e = .returned (.agg #[.bool neg, v]) ∧ w'.ownsRow B 3 1 v l.length (cellsD l) ∧ Below B w0 w'
theorem digs_step {u : Nat} (h : u ≠ 0) (pre : List Int) : pre ++ digs u = (pre ++ [((u % 10 : Nat) : Int)]) ++ digs (u / 10) := by rw [digs_pos h]; simp
theorem own_grown {w w' : World} {g : Nat} {u v : Value} (h : Own w g u v) {row : Option Nat} (hg : w.grownBy w' row) (hne : some g ≠ row) : Own w' g u v := by
  have e := hg.block g h.lt hne
  exact ⟨(World.cell?_of_block (a := ⟨g, 0, none⟩) e).trans h.1, (World.cell?_of_block (a := ⟨g, 1, none⟩) e).trans h.2.1, (World.frozen?_of_block (a := ⟨g, 0, none⟩) e).trans h.2.2.1, (World.frozen?_of_block (a := ⟨g, 1, none⟩) e).trans h.2.2.2⟩
theorem own_store1 {w : World} {g : Nat} {u v : Value} (h : Own w g u v) (b : Value) : Own (w.setCell ⟨g, 1, none⟩ b) g u b :=
  ⟨(World.cell?_setCell_other _ _ _ _ (by simp)).trans h.1, World.cell?_setCell_same _ _ _ h.2.1, by simpa using h.2.2.1, by simpa using h.2.2.2⟩
theorem below_grown' {B : Nat} {a w w' : World} (h : Below B a w) {v : Value} (hg : w.grownBy w' v.ownBlock) (hB : B ≤ w.heap.size) (hv : ∀ k, v.ownBlock = some k → B ≤ k) : Below B a w' := h.grown hg hB hv
theorem own_slice {w : World} {base : Nat} {e : TypeId} {size n : Nat} {v : Value} {xs : List Value} (h : w.ownsRow base e size v n xs) : ∃ A c, v = .slice A n c := by
  rcases h.2 with ⟨rfl, rfl⟩ | ⟨g, cap, cur, rfl, _⟩
  · exact ⟨_, _, rfl⟩
  · exact ⟨_, _, rfl⟩
theorem own_base {w : World} {base b : Nat} {e : TypeId} {size n : Nat} {v : Value} {xs : List Value} (h : w.ownsRow base e size v n xs) (hb : b ≤ base) : w.ownsRow b e size v n xs := by
  refine ⟨h.1, ?_⟩
  rcases h.2 with h | ⟨g, cap, cur, e1, e2, e3⟩
  · exact .inl h
  · exact .inr ⟨g, cap, cur, e1, by omega, e3⟩
theorem tm_abs (m : Int) : (m.tmod 10).natAbs = m.natAbs % 10 ∧ (m.tdiv 10).natAbs = m.natAbs / 10 ∧ (0 ≤ m → m.tmod 10 = m % 10 ∧ m.tdiv 10 = m / 10) ∧ -9 ≤ m.tmod 10 ∧ m.tmod 10 ≤ 9 := by
  obtain ⟨e1, e2⟩ := tdiv_size m 10 (by decide)
  rw [← e1, ← e2]
  by_cases h : m < 0 <;> simp [h] <;> omega
set_option maxRecDepth 100000 in
set_option maxHeartbeats 4000000 in
theorem of_any (n : Int) (hn : InI n) (w0 : World) : Calls Tryd.prog 13 #[.int .i64 n] w0 (OfOut w0.heap.size w0 (decide (n < 0)) (digs n.natAbs)) := by
  obtain ⟨i0, hi, hz0, hz1, hz2⟩ := info_parts int_info
  obtain ⟨hn1, hn2⟩ := hn
  obtain ⟨neg, hneg⟩ : ∃ neg, decide (n < 0) = neg := ⟨_, rfl⟩
  obtain ⟨l, hl⟩ : ∃ l, digs n.natAbs = l := ⟨_, rfl⟩
  rw [hl, hneg]
  have HLL := Lib.hid hl
  clear hl
  go_enter Tryd.func13, Tryd.ntmps13
  go_wp2
  have HNEG := Lib.hid hneg
  clear hneg
  go_loopw [0] (fun s0 wx => ∃ (m : Int) (pre : List Int) (v : Value), s0 = .int .i64 m ∧ Hid (l = pre ++ digs m.natAbs) ∧ InI m ∧ pre.length ≤ 64 ∧ Hid (10 ^ pre.length * m.natAbs ≤ n.natAbs) ∧
      (∃ x y, Own wx w0.heap.size x y) ∧ Own wx (w0.heap.size + 1) (.bool neg) v ∧
      wx.ownsRow (w0.heap.size + 2) 3 1 v pre.length (cellsD pre) ∧ Below w0.heap.size w0 wx) (fun s0 _ => (intOf s0).natAbs)
  case atStart =>
    refine ⟨n, [], .slice none 0 0, rfl, Lib.hid (by simpa using HLL.out.symm), ⟨hn1, hn2⟩, by simp, Lib.hid (by simp), ⟨_, _, (Own.new_at (by simp)).alloc _⟩, Own.new_at (by simp), ⟨rfl, .inl ⟨rfl, rfl⟩⟩, ba (ba (Below.refl _ _))⟩
  case round =>
    obtain ⟨m, pre, v, rfl, hpre, ⟨m1, m2⟩, hp64, hpow, ⟨x0, y0, O0⟩, O1, hown, HB⟩ := hrel
    obtain ⟨A, cp, rfl⟩ := own_slice hown
    by_cases hm : m = 0
    · subst hm
      have hfin : l = pre := by have := hpre.out; rw [show (0 : Int).natAbs = 0 from rfl, digs_zero, List.append_nil] at this; exact this
      obtain ⟨_, _, _, _⟩ := O0
      obtain ⟨_, _, _, _⟩ := O1
      have L0 : w0.heap.size < wr.heap.size := World.block_lt_of_cell? wr ⟨w0.heap.size, 0, none⟩ (by assumption)
      have HF := Lib.hid hfin
      clear hfin hpre hpow
      go_wp2
      exact bodyPost_ret (v := .agg #[.bool neg, .slice A pre.length cp]) (by simp [results, Tryd.results13, go_sem, *]) rfl (by
        refine ⟨_, rfl, ?_, bs (bs HB (by simp)) (by simp)⟩
        rw [HF.out]
        exact own_base (ownsRow_setCell_below (ownsRow_setCell_below hown (by simp) _) (by simp) _) (by omega))
    · have hab := tm_abs m
      have hstep : Hid (l = (pre ++ [((m.natAbs % 10 : Nat) : Int)]) ++ digs (m.natAbs / 10)) := Lib.hid (by rw [hpre.out]; exact digs_step (by omega) pre)
      have hp2 : pre.length ≤ 19 := by
        have h1 := hpow.out
        have h2 : 10 ^ pre.length * 1 ≤ 10 ^ pre.length * m.natAbs := Nat.mul_le_mul_left _ (by omega)
        rcases Nat.lt_or_ge 19 pre.length with h3 | h3
        · have : 10 ^ 20 ≤ 10 ^ pre.length := Nat.pow_le_pow_right (by decide) (by omega)
          omega
        · exact h3
      have hpow2 : Hid (10 ^ (pre.length + 1) * (m.natAbs / 10) ≤ n.natAbs) := Lib.hid (by
        have h1 := hpow.out
        have h2 : 10 ^ (pre.length + 1) * (m.natAbs / 10) = 10 ^ pre.length * (10 * (m.natAbs / 10)) := by rw [Nat.pow_succ, Nat.mul_assoc]
        have h3 : 10 ^ pre.length * (10 * (m.natAbs / 10)) ≤ 10 ^ pre.length * m.natAbs := Nat.mul_le_mul_left _ (by omega)
        omega)
      obtain ⟨D, hD⟩ : ∃ D : Int, D = ((m.natAbs % 10 : Nat) : Int) := ⟨_, rfl⟩
      obtain ⟨t, ht⟩ : ∃ t, m.tmod 10 = t := ⟨_, rfl⟩
      obtain ⟨q, hq⟩ : ∃ q, m.tdiv 10 = q := ⟨_, rfl⟩
      rw [ht, hq] at hab
      rw [← hD] at hstep
      have hqa : q.natAbs = m.natAbs / 10 := hab.2.1
      rw [← hqa] at hstep hpow2
      have hqn : q.natAbs < m.natAbs := by omega
      have hqI : InI q := by unfold InI; omega
      have wq : IntKind.i64.wrap (m.tdiv 10) = q := by rw [hq, IntKind.wrap_i64]; omega
      have O1' := Lib.hid O1
      have O0' := Lib.hid O0
      obtain ⟨_, _, _, _⟩ := O0
      obtain ⟨_, _, _, _⟩ := O1
      have L0 : w0.heap.size < wr.heap.size := World.block_lt_of_cell? wr ⟨w0.heap.size, 0, none⟩ (by assumption)
      have L1 : w0.heap.size + 1 < wr.heap.size := World.block_lt_of_cell? wr ⟨w0.heap.size + 1, 0, none⟩ (by assumption)
      have hbb : w0.heap.size + 2 ≤ wr.heap.size := by omega
      have hlo : ∀ k, (Value.slice A pre.length cp).ownBlock = some k → w0.heap.size + 2 ≤ k := fun k hk => (hown.lt k hk).1
      clear hpre hpow
      by_cases h0 : 0 ≤ m
      · have hmm := hab.2.2.1 h0
        have et : m % 10 = D := by rw [hD]; omega
        have eqq : m / 10 = q := hmm.2.symm
        have hD0 : 0 ≤ D := by omega
        have hDn : ¬ D < 0 := by omega
        clear ht hq hqa hab hmm hD wq
        go_wp2_with (at_builtin; go_must (refine wpList_append_own _ rfl (.tmp 17) (.tmp 19) 32 rfl (w0.heap.size + 2) 3 i0 (.int .i64 0) 1 8 Tryd.underlying32 hi hz0 hz1 hz2 rfl (by decide) _ _ _ rfl (hown.alloc _) ⟨wr.heap.size, 0, none⟩ 1 1 [.int .i64 D] rfl rfl (cell_one_new _ _ _) (by intro u hu; simp at hu; subst hu; rfl) (by unfold maxLen; omega) (by omega) (by simp; omega) ?_; intro v3 w3 hown3 hgrow3 hnil3; have P0 := own_grown (O0'.out.alloc _) hgrow3 (fun h => (by have := hlo _ h.symm; omega)); have P1 := own_grown (O1'.out.alloc _) hgrow3 (fun h => (by have := hlo _ h.symm; omega)); (have Q := P1; obtain ⟨_, _, _, _⟩ := Q); obtain ⟨A3, c3, rfl⟩ := own_slice hown3))
        go_roundw
        case rel =>
          refine ⟨q, pre ++ [D], _, by first | rfl | rw [eqq], hstep, hqI, by simp; omega, by rw [List.length_append]; exact hpow2, ⟨_, _, P0.set_ (by simp)⟩, own_store1 P1 _, ?_, bs (below_grown' (ba HB) hgrow3 (by simp; omega) (fun k hk => by have := hlo k hk; omega)) (by simp)⟩
          rw [List.length_append, cellsD_snoc]
          exact ownsRow_setCell_below hown3 (by simp) _
        case measure => simp [intOf]; omega
      · have hq2 := hab.2.1
        by_cases h1 : t < 0
        · have etn : IntKind.i64.wrap (-t) = D := by rw [IntKind.wrap_i64, hD]; have := hab.1; omega
          have ht' := ht
          clear hq hqa hD
          go_wp2_with (at_builtin; go_must (refine wpList_append_own _ rfl (.tmp 17) (.tmp 19) 32 rfl (w0.heap.size + 2) 3 i0 (.int .i64 0) 1 8 Tryd.underlying32 hi hz0 hz1 hz2 rfl (by decide) _ _ _ rfl (hown.alloc _) ⟨wr.heap.size, 0, none⟩ 1 1 [.int .i64 D] rfl rfl (cell_one_new _ _ _) (by intro u hu; simp at hu; subst hu; rfl) (by unfold maxLen; omega) (by omega) (by simp; omega) ?_; intro v3 w3 hown3 hgrow3 hnil3; have P0 := own_grown (O0'.out.alloc _) hgrow3 (fun h => (by have := hlo _ h.symm; omega)); have P1 := own_grown (O1'.out.alloc _) hgrow3 (fun h => (by have := hlo _ h.symm; omega)); (have Q := P1; obtain ⟨_, _, _, _⟩ := Q); obtain ⟨A3, c3, rfl⟩ := own_slice hown3))
          go_roundw
          case rel =>
            refine ⟨q, pre ++ [D], _, by first | rfl | rw [eqq], hstep, hqI, by simp; omega, by rw [List.length_append]; exact hpow2, ⟨_, _, P0.set_ (by simp)⟩, own_store1 P1 _, ?_, bs (below_grown' (ba HB) hgrow3 (by simp; omega) (fun k hk => by have := hlo k hk; omega)) (by simp)⟩
            rw [List.length_append, cellsD_snoc]
            exact ownsRow_setCell_below hown3 (by simp) _
          case measure => simp [intOf]; omega
        · have etz : t = 0 := by have : m.tmod 10 ≤ 0 := by (obtain ⟨e1, e2⟩ := tdiv_size m 10 (by decide); rw [← e2]; simp [show m < 0 by omega]; omega)
                                 omega
          have eD : D = 0 := by rw [hD]; have := hab.1; omega
          subst eD
          subst etz
          clear hq hqa hD
          go_wp2_with (at_builtin; go_must (refine wpList_append_own _ rfl (.tmp 17) (.tmp 19) 32 rfl (w0.heap.size + 2) 3 i0 (.int .i64 0) 1 8 Tryd.underlying32 hi hz0 hz1 hz2 rfl (by decide) _ _ _ rfl (hown.alloc _) ⟨wr.heap.size, 0, none⟩ 1 1 [.int .i64 0] rfl rfl (cell_one_new _ _ _) (by intro u hu; simp at hu; subst hu; rfl) (by unfold maxLen; omega) (by omega) (by simp; omega) ?_; intro v3 w3 hown3 hgrow3 hnil3; have P0 := own_grown (O0'.out.alloc _) hgrow3 (fun h => (by have := hlo _ h.symm; omega)); have P1 := own_grown (O1'.out.alloc _) hgrow3 (fun h => (by have := hlo _ h.symm; omega)); (have Q := P1; obtain ⟨_, _, _, _⟩ := Q); obtain ⟨A3, c3, rfl⟩ := own_slice hown3))
          go_roundw
          case rel =>
            refine ⟨q, pre ++ [0], _, rfl, hstep, hqI, by simp; omega, by rw [List.length_append]; exact hpow2, ⟨_, _, P0.set_ (by simp)⟩, own_store1 P1 _, ?_, bs (below_grown' (ba HB) hgrow3 (by simp; omega) (fun k hk => by have := hlo k hk; omega)) (by simp)⟩
            rw [List.length_append, cellsD_snoc]
            exact ownsRow_setCell_below hown3 (by simp) _
          case measure => simp [intOf]; omega
end Go.Proofs
