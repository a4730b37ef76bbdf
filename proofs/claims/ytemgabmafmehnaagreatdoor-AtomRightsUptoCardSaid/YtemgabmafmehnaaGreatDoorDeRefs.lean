/- The reference: digits, noughts struck, values fitted. No condition beyond what the theorems state. -/
import Derived.Test.YtemgabmafmehnaaGreatDoorDeTexts
import Derived.Test.YtemgabmafmehnaaGreatDoorDeMath
import Derived.Deep.LoopGhost
import Derived.Laws.AppendOwn
import Derived.OwnWalk
namespace Go.Proofs
open Go.Shelf Go.RowKit Go.Proofs.Wide
set_option maxHeartbeats 2000000 in
theorem refRight_any (n q : Int) (hn : InI n) (hq : InI q) (w : World) : Calls Tryz.prog 41 #[.int .i64 n, .int .i64 q] w fun e w' => e = .returned (.bool (rightB (n, q))) ∧ w = w' := by
  obtain ⟨i1, i2⟩ := hn
  obtain ⟨i3, i4⟩ := hq
  by_cases h1 : -999999999999999999 ≤ n
  by_cases h2 : n ≤ 999999999999999999
  by_cases h3 : 0 ≤ q
  by_cases h4 : q ≤ 9
  by_cases h5 : q = 0
  · have hr : rightB (n, q) = true := by unfold rightB; simp; omega
    rw [hr]
    clear hr
    go_enter Tryz.func41, Tryz.ntmps41
    go_wp2
    go_ret
    exact ⟨rfl, rfl⟩
  · have ht := tm10 n
    have hw : IntKind.i64.wrap (n.tmod 10) = n.tmod 10 := by
      have := (tdiv10 n); rw [IntKind.wrap_i64]
      by_cases h : n % 10 = 0
      · rw [(this.1 h).2]; omega
      · have := this.2 h; omega
    obtain ⟨m, hm⟩ : ∃ m, n.tmod 10 = m := ⟨_, rfl⟩
    rw [hm] at ht hw
    have hw' : IntKind.i64.wrap (n.tmod 10) = m := by rw [hm]; exact hw
    by_cases h6 : m = 0
    · have hr : rightB (n, q) = false := by have := ht.1 h6; unfold rightB; simp; omega
      rw [hr]
      subst h6
      clear ht hr hw
      go_enter Tryz.func41, Tryz.ntmps41
      go_wp2
      go_ret
      exact ⟨ret_bool (by simp [h5]), rfl⟩
    · have hr : rightB (n, q) = true := by have : ¬ n % 10 = 0 := fun h => h6 (ht.2 h); unfold rightB; simp; omega
      rw [hr]
      clear ht hr
      go_enter Tryz.func41, Tryz.ntmps41
      go_wp2
      go_ret
      exact ⟨ret_bool (by simp [h5, h6]), rfl⟩
  · have hr : rightB (n, q) = false := by unfold rightB; simp; omega
    rw [hr]
    clear hr
    go_enter Tryz.func41, Tryz.ntmps41
    go_wp2
    go_ret
    exact ⟨rfl, rfl⟩
  · have hr : rightB (n, q) = false := by unfold rightB; simp; omega
    rw [hr]
    clear hr
    go_enter Tryz.func41, Tryz.ntmps41
    go_wp2
    go_ret
    exact ⟨rfl, rfl⟩
  · have hr : rightB (n, q) = false := by unfold rightB; simp; omega
    rw [hr]
    clear hr
    go_enter Tryz.func41, Tryz.ntmps41
    go_wp2
    go_ret
    exact ⟨rfl, rfl⟩
  · have hr : rightB (n, q) = false := by unfold rightB; simp; omega
    rw [hr]
    clear hr
    go_enter Tryz.func41, Tryz.ntmps41
    go_wp2
    go_ret
    exact ⟨rfl, rfl⟩

end Go.Proofs
namespace Go.Proofs
open Go.Shelf Go.RowKit Go.Proofs.Wide Go.Proofs.Dig
theorem int_info : (Tryz.prog.info? 3).map (fun i => (i.zero, i.size, i.bytes)) = some (some (.int .i64 0), 1, 8) := by kernel_rfl
def cellsD (l : List Int) : List Value := l.map fun d => .int .i64 d
theorem cellsD_snoc (l : List Int) (d : Int) : cellsD (l ++ [d]) = cellsD l ++ [.int .i64 d] := by unfold cellsD; simp
theorem cell_one_new (w : World) (v : Value) (t : TypeId) : ∀ j u, ([v] : List Value)[j]? = some u → (w.alloc (.cells #[v] t)).cell? ((⟨w.heap.size, 0, none⟩ : Addr).add j) = some u := by
  intro j u h
  cases j with
  | zero => injection h with h; subst h; simp [Addr.add, World.cell?_alloc_new]
  | succ j => simp at h
/-- A whole number comes back: its sign, its digits. -/
def OfOut (B : Nat) (w0 : World) (neg : Bool) (l : List Int) (e : Ending) (w' : World) : Prop := ∃ v, e = .returned (.agg #[.bool neg, v]) ∧ w'.ownsRow B 3 1 v l.length (cellsD l) ∧ Below B w0 w'
theorem digs_step {u : Nat} (h : u ≠ 0) (pre : List Int) : pre ++ digs u = (pre ++ [((u % 10 : Nat) : Int)]) ++ digs (u / 10) := by rw [digs_pos h]; simp
theorem own_grown {w w' : World} {g : Nat} {u v : Value} (h : Own w g u v) {row : Option Nat} (hg : w.grownBy w' row) (hne : some g ≠ row) : Own w' g u v := by
  have e := hg.block g h.lt hne
  exact ⟨(World.cell?_of_block (a := ⟨g, 0, none⟩) e).trans h.1, (World.cell?_of_block (a := ⟨g, 1, none⟩) e).trans h.2.1, (World.frozen?_of_block (a := ⟨g, 0, none⟩) e).trans h.2.2.1, (World.frozen?_of_block (a := ⟨g, 1, none⟩) e).trans h.2.2.2⟩
theorem own_store1 {w : World} {g : Nat} {u v : Value} (h : Own w g u v) (b : Value) : Own (w.setCell ⟨g, 1, none⟩ b) g u b :=
  ⟨(World.cell?_setCell_other _ _ _ _ (by simp)).trans h.1, World.cell?_setCell_same _ _ _ h.2.1, by simpa using h.2.2.1, by simpa using h.2.2.2⟩
theorem below_grown' {B : Nat} {a w w' : World} (h : Below B a w) {v : Value} (hg : w.grownBy w' v.ownBlock) (hB : B ≤ w.heap.size) (hv : ∀ k, v.ownBlock = some k → B ≤ k) : Below B a w' := h.grown hg hB hv
theorem own_slice {w : World} {base : Nat} {e : TypeId} {size n : Nat} {v : Value} {xs : List Value} (h : w.ownsRow base e size v n xs) : ∃ A c, v = .slice A n c := by
  rcases h.2 with ⟨rfl, rfl⟩ | ⟨g, cap, cur, rfl, _⟩
  · exact ⟨_, _, rfl⟩
  · exact ⟨_, _, rfl⟩
theorem own_base {w : World} {base b : Nat} {e : TypeId} {size n : Nat} {v : Value} {xs : List Value} (h : w.ownsRow base e size v n xs) (hb : b ≤ base) : w.ownsRow b e size v n xs := by
  refine ⟨h.1, ?_⟩
  rcases h.2 with h | ⟨g, cap, cur, e1, e2, e3⟩
  · exact .inl h
  · exact .inr ⟨g, cap, cur, e1, by omega, e3⟩
theorem tm_abs (m : Int) : (m.tmod 10).natAbs = m.natAbs % 10 ∧ (m.tdiv 10).natAbs = m.natAbs / 10 ∧ (0 ≤ m → m.tmod 10 = m % 10 ∧ m.tdiv 10 = m / 10) ∧ -9 ≤ m.tmod 10 ∧ m.tmod 10 ≤ 9 := by
  obtain ⟨e1, e2⟩ := tdiv_size m 10 (by decide)
  rw [← e1, ← e2]
  by_cases h : m < 0 <;> simp [h] <;> omega
set_option maxRecDepth 100000 in
set_option maxHeartbeats 4000000 in
theorem of_any (n : Int) (hn : InI n) (w0 : World) : Calls Tryz.prog 74 #[.int .i64 n] w0 (OfOut w0.heap.size w0 (decide (n < 0)) (digs n.natAbs)) := by
  obtain ⟨i0, hi, hz0, hz1, hz2⟩ := info_parts int_info
  obtain ⟨hn1, hn2⟩ := hn
  obtain ⟨neg, hneg⟩ : ∃ neg, decide (n < 0) = neg := ⟨_, rfl⟩
  obtain ⟨l, hl⟩ : ∃ l, digs n.natAbs = l := ⟨_, rfl⟩
  rw [hl, hneg]
  have HLL := Lib.hid hl
  clear hl
  go_enter Tryz.func74, Tryz.ntmps74
  go_wp2
  have HNEG := Lib.hid hneg
  clear hneg
  go_loopw [0] (fun s0 wx => ∃ (m : Int) (pre : List Int) (v : Value), s0 = .int .i64 m ∧ Hid (l = pre ++ digs m.natAbs) ∧ InI m ∧ pre.length ≤ 64 ∧ Hid (10 ^ pre.length * m.natAbs ≤ n.natAbs) ∧
      (∃ x y, Own wx w0.heap.size x y) ∧ Own wx (w0.heap.size + 1) (.bool neg) v ∧
      wx.ownsRow (w0.heap.size + 2) 3 1 v pre.length (cellsD pre) ∧ Below w0.heap.size w0 wx) (fun s0 _ => (intOf s0).natAbs)
  case atStart =>
    refine ⟨n, [], .slice none 0 0, rfl, Lib.hid (by simpa using HLL.out.symm), ⟨hn1, hn2⟩, by simp, Lib.hid (by simp), ⟨_, _, (Own.new_at (by simp)).alloc _⟩, Own.new_at (by simp), ⟨rfl, .inl ⟨rfl, rfl⟩⟩, ba (ba (Below.refl _ _))⟩
  case round =>
    obtain ⟨m, pre, v, rfl, hpre, ⟨m1, m2⟩, hp64, hpow, ⟨x0, y0, O0⟩, O1, hown, HB⟩ := hrel
    obtain ⟨A, cp, rfl⟩ := own_slice hown
    by_cases hm : m = 0
    · subst hm
      have hfin : l = pre := by have := hpre.out; rw [show (0 : Int).natAbs = 0 from rfl, digs_zero, List.append_nil] at this; exact this
      obtain ⟨_, _, _, _⟩ := O0
      obtain ⟨_, _, _, _⟩ := O1
      have L0 : w0.heap.size < wr.heap.size := World.block_lt_of_cell? wr ⟨w0.heap.size, 0, none⟩ (by assumption)
      have HF := Lib.hid hfin
      clear hfin hpre hpow
      go_wp2
      exact bodyPost_ret (v := .agg #[.bool neg, .slice A pre.length cp]) (by simp [results, Tryz.results74, go_sem, *]) rfl (by
        refine ⟨_, rfl, ?_, bs (bs HB (by simp)) (by simp)⟩
        rw [HF.out]
        exact own_base (ownsRow_setCell_below (ownsRow_setCell_below hown (by simp) _) (by simp) _) (by omega))
    · have hab := tm_abs m
      have hstep : Hid (l = (pre ++ [((m.natAbs % 10 : Nat) : Int)]) ++ digs (m.natAbs / 10)) := Lib.hid (by rw [hpre.out]; exact digs_step (by omega) pre)
      have hp2 : pre.length ≤ 19 := by
        have h1 := hpow.out
        have h2 : 10 ^ pre.length * 1 ≤ 10 ^ pre.length * m.natAbs := Nat.mul_le_mul_left _ (by omega)
        rcases Nat.lt_or_ge 19 pre.length with h3 | h3
        · have : 10 ^ 20 ≤ 10 ^ pre.length := Nat.pow_le_pow_right (by decide) (by omega)
          omega
        · exact h3
      have hpow2 : Hid (10 ^ (pre.length + 1) * (m.natAbs / 10) ≤ n.natAbs) := Lib.hid (by
        have h1 := hpow.out
        have h2 : 10 ^ (pre.length + 1) * (m.natAbs / 10) = 10 ^ pre.length * (10 * (m.natAbs / 10)) := by rw [Nat.pow_succ, Nat.mul_assoc]
        have h3 : 10 ^ pre.length * (10 * (m.natAbs / 10)) ≤ 10 ^ pre.length * m.natAbs := Nat.mul_le_mul_left _ (by omega)
        omega)
      obtain ⟨D, hD⟩ : ∃ D : Int, D = ((m.natAbs % 10 : Nat) : Int) := ⟨_, rfl⟩
      obtain ⟨t, ht⟩ : ∃ t, m.tmod 10 = t := ⟨_, rfl⟩
      obtain ⟨q, hq⟩ : ∃ q, m.tdiv 10 = q := ⟨_, rfl⟩
      rw [ht, hq] at hab
      rw [← hD] at hstep
      have hqa : q.natAbs = m.natAbs / 10 := hab.2.1
      rw [← hqa] at hstep hpow2
      have hqn : q.natAbs < m.natAbs := by omega
      have hqI : InI q := by unfold InI; omega
      have wq : IntKind.i64.wrap (m.tdiv 10) = q := by rw [hq, IntKind.wrap_i64]; omega
      have O1' := Lib.hid O1
      have O0' := Lib.hid O0
      obtain ⟨_, _, _, _⟩ := O0
      obtain ⟨_, _, _, _⟩ := O1
      have L0 : w0.heap.size < wr.heap.size := World.block_lt_of_cell? wr ⟨w0.heap.size, 0, none⟩ (by assumption)
      have L1 : w0.heap.size + 1 < wr.heap.size := World.block_lt_of_cell? wr ⟨w0.heap.size + 1, 0, none⟩ (by assumption)
      have hbb : w0.heap.size + 2 ≤ wr.heap.size := by omega
      have hlo : ∀ k, (Value.slice A pre.length cp).ownBlock = some k → w0.heap.size + 2 ≤ k := fun k hk => (hown.lt k hk).1
      clear hpre hpow
      by_cases h0 : 0 ≤ m
      · have hmm := hab.2.2.1 h0
        have et : m % 10 = D := by rw [hD]; omega
        have eqq : m / 10 = q := hmm.2.symm
        have hD0 : 0 ≤ D := by omega
        have hDn : ¬ D < 0 := by omega
        clear ht hq hqa hab hmm hD wq
        go_wp2_with (at_builtin; go_must (refine wpList_append_own _ rfl (.tmp 17) (.tmp 19) 91 rfl (w0.heap.size + 2) 3 i0 (.int .i64 0) 1 8 Tryz.underlying91 hi hz0 hz1 hz2 rfl (by decide) _ _ _ rfl (hown.alloc _) ⟨wr.heap.size, 0, none⟩ 1 1 [.int .i64 D] rfl rfl (cell_one_new _ _ _) (by intro u hu; simp at hu; subst hu; rfl) (by unfold maxLen; omega) (by omega) (by simp; omega) ?_; intro v3 w3 hown3 hgrow3 hnil3; have P0 := own_grown (O0'.out.alloc _) hgrow3 (fun h => (by have := hlo _ h.symm; omega)); have P1 := own_grown (O1'.out.alloc _) hgrow3 (fun h => (by have := hlo _ h.symm; omega)); (have Q := P1; obtain ⟨_, _, _, _⟩ := Q); obtain ⟨A3, c3, rfl⟩ := own_slice hown3))
        go_roundw
        case rel =>
          refine ⟨q, pre ++ [D], _, by first | rfl | rw [eqq], hstep, hqI, by simp; omega, by rw [List.length_append]; exact hpow2, ⟨_, _, P0.set_ (by simp)⟩, own_store1 P1 _, ?_, bs (below_grown' (ba HB) hgrow3 (by simp; omega) (fun k hk => by have := hlo k hk; omega)) (by simp)⟩
          rw [List.length_append, cellsD_snoc]
          exact ownsRow_setCell_below hown3 (by simp) _
        case measure => simp [intOf]; omega
      · have hq2 := hab.2.1
        by_cases h1 : t < 0
        · have etn : IntKind.i64.wrap (-t) = D := by rw [IntKind.wrap_i64, hD]; have := hab.1; omega
          have ht' := ht
          clear hq hqa hD
          go_wp2_with (at_builtin; go_must (refine wpList_append_own _ rfl (.tmp 17) (.tmp 19) 91 rfl (w0.heap.size + 2) 3 i0 (.int .i64 0) 1 8 Tryz.underlying91 hi hz0 hz1 hz2 rfl (by decide) _ _ _ rfl (hown.alloc _) ⟨wr.heap.size, 0, none⟩ 1 1 [.int .i64 D] rfl rfl (cell_one_new _ _ _) (by intro u hu; simp at hu; subst hu; rfl) (by unfold maxLen; omega) (by omega) (by simp; omega) ?_; intro v3 w3 hown3 hgrow3 hnil3; have P0 := own_grown (O0'.out.alloc _) hgrow3 (fun h => (by have := hlo _ h.symm; omega)); have P1 := own_grown (O1'.out.alloc _) hgrow3 (fun h => (by have := hlo _ h.symm; omega)); (have Q := P1; obtain ⟨_, _, _, _⟩ := Q); obtain ⟨A3, c3, rfl⟩ := own_slice hown3))
          go_roundw
          case rel =>
            refine ⟨q, pre ++ [D], _, by first | rfl | rw [eqq], hstep, hqI, by simp; omega, by rw [List.length_append]; exact hpow2, ⟨_, _, P0.set_ (by simp)⟩, own_store1 P1 _, ?_, bs (below_grown' (ba HB) hgrow3 (by simp; omega) (fun k hk => by have := hlo k hk; omega)) (by simp)⟩
            rw [List.length_append, cellsD_snoc]
            exact ownsRow_setCell_below hown3 (by simp) _
          case measure => simp [intOf]; omega
        · have etz : t = 0 := by have : m.tmod 10 ≤ 0 := by (obtain ⟨e1, e2⟩ := tdiv_size m 10 (by decide); rw [← e2]; simp [show m < 0 by omega]; omega)
                                 omega
          have eD : D = 0 := by rw [hD]; have := hab.1; omega
          subst eD
          subst etz
          clear hq hqa hD
          go_wp2_with (at_builtin; go_must (refine wpList_append_own _ rfl (.tmp 17) (.tmp 19) 91 rfl (w0.heap.size + 2) 3 i0 (.int .i64 0) 1 8 Tryz.underlying91 hi hz0 hz1 hz2 rfl (by decide) _ _ _ rfl (hown.alloc _) ⟨wr.heap.size, 0, none⟩ 1 1 [.int .i64 0] rfl rfl (cell_one_new _ _ _) (by intro u hu; simp at hu; subst hu; rfl) (by unfold maxLen; omega) (by omega) (by simp; omega) ?_; intro v3 w3 hown3 hgrow3 hnil3; have P0 := own_grown (O0'.out.alloc _) hgrow3 (fun h => (by have := hlo _ h.symm; omega)); have P1 := own_grown (O1'.out.alloc _) hgrow3 (fun h => (by have := hlo _ h.symm; omega)); (have Q := P1; obtain ⟨_, _, _, _⟩ := Q); obtain ⟨A3, c3, rfl⟩ := own_slice hown3))
          go_roundw
          case rel =>
            refine ⟨q, pre ++ [0], _, rfl, hstep, hqI, by simp; omega, by rw [List.length_append]; exact hpow2, ⟨_, _, P0.set_ (by simp)⟩, own_store1 P1 _, ?_, bs (below_grown' (ba HB) hgrow3 (by simp; omega) (fun k hk => by have := hlo k hk; omega)) (by simp)⟩
            rw [List.length_append, cellsD_snoc]
            exact ownsRow_setCell_below hown3 (by simp) _
          case measure => simp [intOf]; omega
end Go.Proofs
namespace Go.Proofs
open Go.Shelf Go.RowKit Go.Proofs.Wide Go.Proofs.Dig
/-- A slice that reads as a row of whole numbers, nil let in. -/
def Rd (w : World) (A : Option Addr) (l : List Int) : Prop := l ≠ [] → ∃ ad, A = some ad ∧ ∀ j d, l[j]? = some d → w.cell? (ad.add j) = some (.int .i64 d)
theorem Rd.call {w w' : World} {A : Option Addr} {l : List Int} (h : Rd w A l) (hb : Below w.heap.size w w') : Rd w' A l := fun hne => by
  obtain ⟨ad, e, hc⟩ := h hne
  exact ⟨ad, e, fun j d hd => (hb.cell (World.block_lt_of_cell? w _ (hc j d hd))).trans (hc j d hd)⟩
theorem Rd.nil {w : World} {A : Option Addr} : Rd w A [] := fun h => absurd rfl h
theorem Rd.take {w : World} {A : Option Addr} {l : List Int} (h : Rd w A l) (n : Nat) : Rd w A (l.take n) := fun hne => by
  obtain ⟨ad, e, hc⟩ := h (fun e => hne (by rw [e]; simp))
  refine ⟨ad, e, fun j d hd => hc j d ?_⟩
  rw [List.getElem?_take] at hd
  split at hd
  · exact hd
  · cases hd
theorem trim_take (l : List Int) (k : Nat) (hk : k < l.length) (h0 : l.getD k 0 = 0) : trimL (l.take (k + 1)) = trimL (l.take k) := by
  have e : l.take (k + 1) = l.take k ++ [0] := by
    rw [List.take_add_one, List.getElem?_eq_getElem hk]
    have : l[k] = 0 := by rw [List.getD_eq_getElem?_getD, List.getElem?_eq_getElem hk] at h0; exact h0
    rw [this]; rfl
  rw [e, trim_snoc_zero]
theorem trim_stop (l : List Int) (k : Nat) (hk : k < l.length) (h0 : l.getD k 0 ≠ 0) : trimL (l.take (k + 1)) = l.take (k + 1) := by
  have e : l.take (k + 1) = l.take k ++ [l[k]] := by rw [List.take_add_one, List.getElem?_eq_getElem hk]; rfl
  have : l[k] ≠ 0 := by rw [List.getD_eq_getElem?_getD, List.getElem?_eq_getElem hk] at h0; exact h0
  rw [e, trim_snoc _ _ this]
set_option maxHeartbeats 2000000 in
theorem trim_any (A : Option Addr) (l : List Int) (c : Nat) (w : World) (hr : Rd w A l) (hl : l.length ≤ c) (hc : c ≤ 9223372036854775807) :
    Calls Tryz.prog 91 #[.slice A l.length c] w fun e w' => e = .returned (.slice A (trimL l).length c) ∧ w = w' := by
  have hlI : (l.length : Int) ≤ (c : Int) := by omega
  obtain ⟨t, ht⟩ : ∃ t, (trimL l).length = t := ⟨_, rfl⟩
  rw [ht]
  have HT := Lib.hid ht
  have HR := Lib.hid hr
  clear ht hr
  go_enter Tryz.func91, Tryz.ntmps91
  go_wp2
  go_loop [3] (fun s3 => ∃ k : Nat, s3 = .int .i64 k ∧ k ≤ l.length ∧ Hid (trimL l = trimL (l.take k))) (fun s3 => (intOf s3).toNat)
  case atStart => exact ⟨l.length, rfl, Nat.le_refl _, Lib.hid (by rw [List.take_length])⟩
  case round =>
    obtain ⟨k, rfl, hk, hq⟩ := hrel
    cases k with
    | zero =>
      have e : t = 0 := by rw [← HT.out, hq.out]; rfl
      subst e
      clear hq
      go_wp2
      go_ret
      exact ⟨rfl, rfl⟩
    | succ k =>
      obtain ⟨ad, rfl, hcell⟩ := HR.out (by intro e; subst e; simp at hk)
      have hx := hcell k _ (List.getElem?_eq_getElem (by omega : k < l.length))
      have hgd : l.getD k 0 = l[k] := by rw [List.getD_eq_getElem?_getD, List.getElem?_eq_getElem (by omega)]; rfl
      have hkl : k < l.length := by omega
      have w1 : IntKind.i64.wrap (((k + 1 : Nat) : Int) - 1) = (k : Int) := by rw [IntKind.wrap_i64]; omega
      have hkI : (k : Int) < (l.length : Int) := by omega
      have hk0 : (0 : Int) ≤ (k : Int) := by omega
      have hkp : (0 : Int) < ((k + 1 : Nat) : Int) := by omega
      obtain ⟨d, hd⟩ : ∃ d, l[k] = d := ⟨_, rfl⟩
      rw [hd] at hx hgd
      have HGD := Lib.hid hgd
      clear hcell hgd hd
      by_cases h0 : d = 0
      · subst h0
        have hn : Hid (trimL l = trimL (l.take k)) := Lib.hid (by rw [hq.out, trim_take l k hkl HGD.out])
        clear hq
        go_wp2
        go_round
        case rel => exact ⟨k, rfl, by omega, hn⟩
        case measure => simp [intOf]
      · have e : t = k + 1 := by
          rw [← HT.out, hq.out, trim_stop l k hkl (by rw [HGD.out]; exact h0), List.length_take]; omega
        subst e
        have hkc : ((k + 1 : Nat) : Int) ≤ (c : Int) := by omega
        clear hq
        go_wp2
        go_ret
        exact ⟨rfl, rfl⟩
end Go.Proofs
namespace Go.Proofs
open Go.Shelf Go.RowKit Go.Proofs.Wide Go.Proofs.Dig
theorem Rd.tail {w : World} {ad : Addr} {l : List Int} (h : Rd w (some ad) l) : Rd w (some (ad.add 1)) (l.drop 1) := fun hne => by
  obtain ⟨a, e, hc⟩ := h (fun e => hne (by rw [e]; rfl))
  injection e with e
  subst e
  refine ⟨_, rfl, fun j d hd => ?_⟩
  have e2 : (ad.add 1).add j = ad.add (1 + j) := by
    unfold Addr.add
    by_cases hj : j = 0 <;> simp [hj, Nat.add_assoc]
  rw [e2]
  exact hc (1 + j) d (by rw [List.getElem?_drop] at hd; exact hd)
theorem val_drop1 (l : List Int) (h : isDig l) : val (l.drop 1) = val l / 10 := by
  cases l with
  | nil => rfl
  | cons d l => have := h d (by simp); show val l = (d + 10 * val l) / 10; omega
theorem head_mod (l : List Int) (h : isDig l) : l.getD 0 0 = val l % 10 := by
  cases l with
  | nil => rfl
  | cons d l => have := h d (by simp); show d = (d + 10 * val l) % 10; omega
theorem val_drop (l : List Int) (h : isDig l) (j : Nat) : val (l.drop j) = val l / 10 ^ j := by
  induction j with
  | zero => simp
  | succ j ih =>
    have e : l.drop (j + 1) = (l.drop j).drop 1 := by rw [List.drop_drop]
    rw [e, val_drop1 _ (isDig_drop h j), ih, Int.pow_succ, Int.ediv_ediv_of_nonneg (Int.le_of_lt (p10 j))]
theorem Rd.cut1 {w : World} {A : Option Addr} {l : List Int} {c : Nat} (h : Rd w A l) (h1 : 0 < l.length) (hc : l.length ≤ c) :
    Rd w (if c = 1 then A else Option.map (fun x => { block := x.block, off := x.off + 1 }) A) (l.drop 1) := by
  by_cases hc1 : c = 1
  · have : l.drop 1 = [] := List.drop_eq_nil_of_le (by omega)
    rw [this]; exact Rd.nil
  · rw [if_neg hc1]
    obtain ⟨ad, rfl, hh⟩ := h (by intro e; rw [e] at h1; simp at h1)
    have hR : Rd w (some ad) l := fun _ => ⟨ad, rfl, hh⟩
    exact hR.tail
/-- A magnitude with its sign. -/
def sg (neg : Bool) (u : Int) : Int := if neg = true then -u else u
theorem norm_s' (s : Nat) (x : Int) : norm (s + 1) x = if x % 10 = 0 then norm s (x / 10) else (x, s + 1) := rfl
theorem sg_div (neg : Bool) (u : Int) (h : u % 10 = 0) : sg neg u / 10 = sg neg (u / 10) ∧ sg neg u % 10 = 0 := by unfold sg; split <;> omega
theorem sg_mod (neg : Bool) (u : Int) (h : u % 10 ≠ 0) : sg neg u % 10 ≠ 0 := by unfold sg; split <;> omega
theorem cut_sg (neg : Bool) (u : Int) (s : Nat) (hu : 0 ≤ u) (h : 9 < s) : cut (sg neg u) s = sg neg (u / 10 ^ (s - 9)) := by
  unfold cut sg
  rw [if_pos h]
  cases neg with
  | false => simp only [Bool.false_eq_true, if_false]; exact Int.tdiv_eq_ediv_of_nonneg hu
  | true => simp only [if_true]; rw [Int.neg_tdiv, Int.tdiv_eq_ediv_of_nonneg hu]
set_option maxRecDepth 100000 in
set_option maxHeartbeats 4000000 in
theorem refFit_any (neg : Bool) (A : Option Addr) (l : List Int) (c s : Nat) (w0 : World) (hd : isDig l) (hr : Rd w0 A l) (hl : l.length ≤ c) (hc : c ≤ 9223372036854775807) (hs : s ≤ 4000000) :
    Calls Tryz.prog 80 #[.agg #[.bool neg, .slice A l.length c], .int .i64 s] w0 fun e w' => e = .returned (.tuple #[.int .i64 (outN (fitZ (sg neg (val l)) s)), .int .i64 (outK (fitZ (sg neg (val l)) s)), .bool (fitZ (sg neg (val l)) s).isSome]) ∧ Below w0.heap.size w0 w' := by
  obtain ⟨rn, hrn⟩ : ∃ x, outN (fitZ (sg neg (val l)) s) = x := ⟨_, rfl⟩
  obtain ⟨rk, hrk⟩ : ∃ x, outK (fitZ (sg neg (val l)) s) = x := ⟨_, rfl⟩
  obtain ⟨ro, hro⟩ : ∃ x, (fitZ (sg neg (val l)) s).isSome = x := ⟨_, rfl⟩
  rw [hrn, hrk, hro]
  have HRN := Lib.hid hrn; have HRK := Lib.hid hrk; have HRO := Lib.hid hro; have HD := Lib.hid hd
  have HR : Hid (Rd (w0.alloc (.cells #[.bool neg, .slice A l.length c] 99)) A l) := Lib.hid (hr.call ((Below.refl _ _).alloc (Nat.le_refl _) _))
  clear hrn hrk hro hd hr
  go_enter Tryz.func80, Tryz.ntmps80
  go_wp2
  go_loop [1, 7] (fun s1 s7 => ∃ (j k : Nat) (A' : Option Addr) (c' : Nat), s1 = .int .i64 k ∧ k + j = s ∧ (j = 0 ∨ 9 ≤ k) ∧ s7 = .slice A' (l.drop j).length c' ∧ (l.drop j).length ≤ c' ∧ c' ≤ 9223372036854775807 ∧ Rd (w0.alloc (.cells #[.bool neg, .slice A l.length c] 99)) A' (l.drop j)) (fun s1 _ => (intOf s1).toNat)
  case atStart => exact ⟨0, s, A, c, rfl, by omega, .inl rfl, rfl, by simpa using hl, hc, by simpa using HR.out⟩
  case round =>
    obtain ⟨j, k, A', c', rfl, hk, hk9, rfl, hl', hc', hrd⟩ := hrel
    by_cases h9 : (9 : Int) < (k : Int)
    · have w1 : IntKind.i64.wrap ((k : Int) - 1) = ((k - 1 : Nat) : Int) := by rw [IntKind.wrap_i64]; omega
      have HRD := Lib.hid hrd
      have hdd : l.drop (j + 1) = (l.drop j).drop 1 := by rw [List.drop_drop]
      have HDD := Lib.hid hdd
      have hlen1 : (l.drop (j + 1)).length = (l.drop j).length - 1 := by rw [hdd, List.length_drop (i := 1)]
      have HL1 := Lib.hid hlen1
      clear hrd hdd hlen1
      obtain ⟨m, hm⟩ : ∃ m, (l.drop j).length = m := ⟨_, rfl⟩
      have HM := Lib.hid hm
      rw [hm] at hl' HL1
      rw [hm]
      clear hm
      by_cases h0 : 0 < m
      · have h0I : (0 : Int) < (m : Int) := by omega
        have h1c : (1 : Int) ≤ (m : Int) := by omega
        have hmc : (m : Int) ≤ (c' : Int) := by omega
        have hn := HRD.out.cut1 (by rw [HM.out]; exact h0) (by rw [HM.out]; exact hl')
        have HN := Lib.hid hn
        clear hn
        go_wp2
        go_round
        case rel => exact ⟨j + 1, k - 1, _, _, rfl, by omega, .inr (by omega), by rw [HL1.out], by rw [HL1.out]; omega, by omega, by rw [HDD.out]; exact HN.out⟩
        case measure => simp [intOf]; omega
      · obtain rfl : m = 0 := by omega
        have hnil : l.drop j = [] := List.eq_nil_of_length_eq_zero HM.out
        have HNIL := Lib.hid hnil
        clear hnil
        go_wp2
        go_round
        case rel => exact ⟨j + 1, k - 1, _, _, rfl, by omega, .inr (by omega), by rw [HL1.out], by rw [HL1.out]; omega, hc', by rw [HDD.out, HNIL.out]; exact Rd.nil⟩
        case measure => simp [intOf]; omega
    · -- the digits behind the ninth are gone
      have hcutv : cut (sg neg (val l)) s = sg neg (val (l.drop j)) := by
        have hv := val_nonneg l HD.out
        by_cases hs9 : 9 < s
        · rw [cut_sg neg _ s hv hs9, val_drop l HD.out j, show s - 9 = j by omega]
        · have : j = 0 := by omega
          subst this
          unfold cut; rw [if_neg hs9, List.drop_zero]
      have hk9' : min s 9 = k := by omega
      have hfit : fitZ (sg neg (val l)) s = if -999999999999999999 ≤ (norm k (sg neg (val (l.drop j)))).1 ∧ (norm k (sg neg (val (l.drop j)))).1 ≤ 999999999999999999 then some (norm k (sg neg (val (l.drop j)))) else none := by
        unfold fitZ; rw [hcutv, hk9']
      have HF := Lib.hid hfit
      have HDJ := Lib.hid (isDig_drop HD.out j)
      have hk10 : k ≤ 9 := by omega
      clear hcutv hfit hk9' hk9 hk
      obtain ⟨p, hp⟩ : ∃ p, l.drop j = p := ⟨_, rfl⟩
      rw [hp] at HF HDJ hl' hrd
      rw [hp]
      have HRP := Lib.hid hrd
      clear hp hrd
      go_wp2
      go_loop [1, 7] (fun s1 s7 => ∃ (i m : Nat) (A1 : Option Addr) (c1 : Nat), s1 = .int .i64 m ∧ m ≤ 9 ∧ Hid (norm m (sg neg (val (p.drop i))) = norm k (sg neg (val p))) ∧ s7 = .slice A1 (p.drop i).length c1 ∧ (p.drop i).length ≤ c1 ∧ c1 ≤ 9223372036854775807 ∧ Hid (Rd (w0.alloc (.cells #[.bool neg, .slice A l.length c] 99)) A1 (p.drop i))) (fun s1 _ => (intOf s1).toNat)
      case atStart => exact ⟨0, k, A', c', rfl, hk10, Lib.hid (by rw [List.drop_zero]), by rw [List.drop_zero], by rw [List.drop_zero]; exact hl', hc', Lib.hid (by rw [List.drop_zero]; exact HRP.out)⟩
      case round =>
        obtain ⟨i, m, A1, c1, rfl, hm9, hq, rfl, hl1, hc1, hrd1⟩ := hrel
        obtain ⟨q, hpq⟩ : ∃ q, p.drop i = q := ⟨_, rfl⟩
        rw [hpq] at hq hl1 hrd1
        rw [hpq]
        have HPQ := Lib.hid hpq
        have HQ : Hid (isDig q) := Lib.hid (by rw [← hpq]; exact isDig_drop HDJ.out i)
        clear hpq
        by_cases hm0 : 0 < m
        · have hm0I : (0 : Int) < (m : Int) := by omega
          by_cases hlen : q.length = 0
          · have hqn : q = [] := List.eq_nil_of_length_eq_zero hlen
            subst hqn
            have HZ : Hid (([] : List Int).getD 0 0 = 0) := Lib.hid rfl
            have w1 : IntKind.i64.wrap ((m : Int) - 1) = ((m - 1 : Nat) : Int) := by rw [IntKind.wrap_i64]; omega
            have hdd : Hid (p.drop (i + 1) = ([] : List Int).drop 1) := Lib.hid (by rw [← HPQ.out, List.drop_drop])
            have hlen1 : Hid ((p.drop (i + 1)).length = ([] : List Int).length - 1) := Lib.hid (by rw [hdd.out, List.length_drop])
            have hn : Hid (norm (m - 1) (sg neg (val (p.drop (i + 1)))) = norm k (sg neg (val p))) := Lib.hid (by
              have e := sg_div neg (val []) (by rw [← head_mod [] HQ.out]; exact HZ.out)
              rw [← hq.out, hdd.out, val_drop1 [] HQ.out, ← e.1]
              obtain ⟨m', rfl⟩ : ∃ m', m = m' + 1 := ⟨m - 1, by omega⟩
              rw [norm_s', if_pos e.2]; rfl)
            clear hq hlen
            go_wp2
            go_round
            case rel => exact ⟨i + 1, m - 1, _, _, rfl, by omega, hn, by rw [hlen1.out]; rfl, by rw [hlen1.out]; simp, hc1, Lib.hid (by rw [hdd.out]; exact Rd.nil)⟩
            case measure => simp [intOf]; omega
          · have hlp : 0 < q.length := by omega
            have hlI : (0 : Int) < (q.length : Int) := by omega
            have hqne : ¬ q = [] := by intro e; rw [e] at hlp; simp at hlp
            have hln : ¬ (q.length : Int) = 0 := by omega
            have hl1I : (1 : Int) ≤ (q.length : Int) := by omega
            have hlcI : (q.length : Int) ≤ (c1 : Int) := by omega
            have h00 : (0 : Nat) < q.length := hlp
            obtain ⟨ad, rfl, hcell⟩ := hrd1.out (by intro e; subst e; simp at hlp)
            have hx := hcell 0 _ (List.getElem?_eq_getElem hlp)
            have hgd : q.getD 0 0 = q[0] := by rw [List.getD_eq_getElem?_getD, List.getElem?_eq_getElem hlp]; rfl
            obtain ⟨d, hd⟩ : ∃ d, q[0] = d := ⟨_, rfl⟩
            rw [hd] at hx hgd
            have HGD := Lib.hid hgd
            clear hgd hd hcell hlen
            have hx0 : (w0.alloc (.cells #[.bool neg, .slice A l.length c] 99)).cell? ad = some (.int .i64 d) := by simpa [Addr.add] using hx
            by_cases hd0 : d = 0
            · subst hd0
              have HZ : Hid (q.getD 0 0 = 0) := HGD
              have w1 : IntKind.i64.wrap ((m : Int) - 1) = ((m - 1 : Nat) : Int) := by rw [IntKind.wrap_i64]; omega
              have hdd : Hid (p.drop (i + 1) = q.drop 1) := Lib.hid (by rw [← HPQ.out, List.drop_drop])
              have hlen1 : Hid ((p.drop (i + 1)).length = q.length - 1) := Lib.hid (by rw [hdd.out, List.length_drop])
              have hn : Hid (norm (m - 1) (sg neg (val (p.drop (i + 1)))) = norm k (sg neg (val p))) := Lib.hid (by
                have e := sg_div neg (val q) (by rw [← head_mod q HQ.out]; exact HZ.out)
                rw [← hq.out, hdd.out, val_drop1 q HQ.out, ← e.1]
                obtain ⟨m', rfl⟩ : ∃ m', m = m' + 1 := ⟨m - 1, by omega⟩
                rw [norm_s', if_pos e.2]; rfl)
              have hcut := Lib.hid (hrd1.out.cut1 hlp hl1)
              clear hq
              go_wp2
              go_round
              case rel => exact ⟨i + 1, m - 1, _, _, rfl, by omega, hn, by rw [hlen1.out], by rw [hlen1.out]; omega, by omega, Lib.hid (by rw [hdd.out]; exact hcut.out)⟩
              case measure => simp [intOf]; omega
            · have HE : Hid (norm m (sg neg (val q)) = (sg neg (val q), m)) := Lib.hid (by
                obtain ⟨m', rfl⟩ : ∃ m', m = m' + 1 := ⟨m - 1, by omega⟩
                rw [norm_s', if_neg (sg_mod neg _ (by rw [← head_mod q HQ.out, HGD.out]; exact hd0))])
              -- the digits that are left, without noughts at the end
              have HFF : Hid (fitZ (sg neg (val l)) s = if -999999999999999999 ≤ sg neg (val q) ∧ sg neg (val q) ≤ 999999999999999999 then some (sg neg (val q), m) else none) := Lib.hid (by rw [HF.out, ← hq.out, HE.out])
              obtain ⟨cT, vT, lT, eT⟩ := trim_spec q HQ.out
              have tr := fun w (h : Rd w (some ad) q) => trim_any (some ad) q c1 w h hl1 (by omega)
              have HTR := Lib.hid tr
              have HRT : Hid (Rd (w0.alloc (.cells #[.bool neg, .slice A l.length c] 99)) (some ad) (trimL q)) := Lib.hid (by rw [eT]; exact hrd1.out.take _)
              have HV := Lib.hid vT
              have HCT := Lib.hid cT
              obtain ⟨T, hT⟩ : ∃ T, trimL q = T := ⟨_, rfl⟩
              rw [hT] at HTR HRT HV HCT lT
              have hTc : T.length ≤ c1 := by omega
              have hTcI : (T.length : Int) ≤ (c1 : Int) := by omega
              clear tr cT vT eT hT HF hq HE
              have hb1 : (((q.length : Int)) == 0) = false := by simpa using hln
              have hb2 : (d == 0) = false := by simpa using hd0
              have hb3 : ¬ ((((q.length : Int)) == 0) = true ∨ (d == 0) = true) := by simp [hb1, hb2]
              by_cases h18 : 18 < T.length
              · have h18I : (18 : Int) < (T.length : Int) := by omega
                have hbig : (1000000000000000000 : Int) ≤ val q := by
                  rw [← HV.out]
                  rcases HCT.out.2 with h | h
                  · rw [h] at h18; simp at h18
                  · have x : (10 : Nat) ^ 18 ≤ 10 ^ (T.length - 1) := Nat.pow_le_pow_right (by decide) (by omega)
                    have e2 : (((10 : Nat) ^ (T.length - 1) : Nat) : Int) = 10 ^ (T.length - 1) := by simp
                    have := Int.ofNat_le.2 x
                    rw [← e2] at h
                    have e3 : ((10 ^ 18 : Nat) : Int) = 1000000000000000000 := by decide
                    omega
                have hnone : fitZ (sg neg (val l)) s = none := by rw [HFF.out, if_neg]; unfold sg; split <;> omega
                have h1 := HRN.out; have h2 := HRK.out; have h3 := HRO.out
                rw [hnone] at h1 h2 h3
                obtain rfl : (0 : Int) = rn := h1
                obtain rfl : (0 : Int) = rk := h2
                obtain rfl : false = ro := h3
                clear hnone hbig
                go_wp2_with (go_at_call 91; refine (HTR.out _ hrd1.out).mono ?_; rintro e w' ⟨rfl, rfl⟩)
                exact bodyPost_ret (v := .tuple #[.int .i64 0, .int .i64 0, .bool false]) (by simp [results, Tryz.results80, go_sem]) rfl ⟨rfl, ba (Below.refl _ _)⟩
              · have h18I : ¬ (18 : Int) < (T.length : Int) := by omega
                have hsmall : 0 ≤ val T ∧ val T < 1000000000000000000 := by
                  have a := val_nonneg T HCT.out.1
                  have b := val_lt T HCT.out.1
                  have x : (10 : Nat) ^ T.length ≤ 10 ^ 18 := Nat.pow_le_pow_right (by decide) (by omega)
                  have e2 : (((10 : Nat) ^ T.length : Nat) : Int) = 10 ^ T.length := by simp
                  have := Int.ofNat_le.2 x
                  rw [← e2] at b
                  have e3 : ((10 ^ 18 : Nat) : Int) = 1000000000000000000 := by decide
                  omega
                have hsome : fitZ (sg neg (val l)) s = some (sg neg (val T), m) := by rw [HFF.out, ← HV.out, if_pos]; unfold sg; split <;> omega
                have h1 := HRN.out; have h2 := HRK.out; have h3 := HRO.out
                rw [hsome] at h1 h2 h3
                obtain rfl : sg neg (val T) = rn := h1
                obtain rfl : (m : Int) = rk := h2
                obtain rfl : true = ro := h3
                have HSM := Lib.hid hsmall
                clear hsome hsmall
                go_wp2_with (go_at_call 91; refine (HTR.out _ hrd1.out).mono ?_; rintro e w' ⟨rfl, rfl⟩)
                go_loop [8, 9] (fun s8 s9 => ∃ (i' : Nat) (v : Int), s9 = .int .i64 ((i' : Int) - 1) ∧ s8 = .int .i64 v ∧ i' ≤ T.length ∧ Hid (v = val (T.drop i'))) (fun _ s9 => (intOf s9 + 1).toNat)
                case atStart => exact ⟨T.length, 0, rfl, rfl, Nat.le_refl _, Lib.hid (by rw [List.drop_length]; rfl)⟩
                case round =>
                  obtain ⟨i', v, rfl, rfl, hi', hv⟩ := hrel
                  cases i' with
                  | zero =>
                    have hgo : ¬ (0 : Int) ≤ (((0 : Nat) : Int) - 1) := by omega
                    obtain rfl : v = val T := by rw [hv.out, List.drop_zero]
                    clear hv
                    have ha := HSM.out
                    have w1 : IntKind.i64.wrap (-(val T)) = -(val T) := by rw [IntKind.wrap_i64]; omega
                    clear ha
                    cases neg with
                    | false =>
                      go_wp2
                      exact bodyPost_ret (v := .tuple #[.int .i64 (val T), .int .i64 m, .bool true]) (by simp [results, Tryz.results80, go_sem]) rfl ⟨rfl, ba (Below.refl _ _)⟩
                    | true =>
                      go_wp2
                      exact bodyPost_ret (v := .tuple #[.int .i64 (-(val T)), .int .i64 m, .bool true]) (by simp [results, Tryz.results80, go_sem]) rfl ⟨rfl, ba (Below.refl _ _)⟩
                  | succ i' =>
                    have hlt : i' < T.length := by omega
                    have hT0 : ¬ T = [] := by intro e; rw [e] at hlt; simp at hlt
                    obtain ⟨ad2, hA, hcell2⟩ := HRT.out hT0
                    have hx2 := hcell2 i' _ (List.getElem?_eq_getElem hlt)
                    have e1 : T.drop i' = T[i'] :: T.drop (i' + 1) := List.drop_eq_getElem_cons hlt
                    have hdig : 0 ≤ T[i'] ∧ T[i'] ≤ 9 := HCT.out.1 _ (List.getElem_mem hlt)
                    have hle : val (T.drop i') ≤ val T := by
                      rw [val_drop T HCT.out.1 i']
                      exact Int.ediv_le_self _ HSM.out.1
                    have hnn := val_nonneg _ (isDig_drop HCT.out.1 (i' + 1))
                    have e2 : val (T.drop i') = T[i'] + 10 * val (T.drop (i' + 1)) := by rw [e1]; rfl
                    have hsm := HSM.out.2
                    obtain ⟨x, hx⟩ : ∃ x, T[i'] = x := ⟨_, rfl⟩
                    rw [hx] at hx2 e2 hdig
                    rw [← hv.out] at e2 hnn
                    have wm : IntKind.i64.wrap (10 * v) = 10 * v := by rw [IntKind.wrap_i64]; omega
                    have wa : IntKind.i64.wrap (10 * v + x) = 10 * v + x := by rw [IntKind.wrap_i64]; omega
                    have wj : IntKind.i64.wrap (((i' + 1 : Nat) : Int) - 1 - 1) = (i' : Int) - 1 := by rw [IntKind.wrap_i64]; omega
                    have ei : (((i' + 1 : Nat) : Int) - 1) = (i' : Int) := by omega
                    have hgo : (0 : Int) ≤ (i' : Int) := by omega
                    have hltI : (i' : Int) < (T.length : Int) := by omega
                    have hn : Hid (10 * v + x = val (T.drop i')) := Lib.hid (by omega)
                    cases hA
                    clear hcell2 e1 hle hnn e2 hsm hx hv hdig
                    rw [ei] at wj
                    rw [ei]
                    go_wp2
                    go_round
                    case rel => exact ⟨i', _, rfl, rfl, by omega, hn⟩
                    case measure => first | (simp [intOf]; done) | (simp [intOf]; omega)
        · obtain rfl : m = 0 := by omega
          have HE : Hid (norm 0 (sg neg (val q)) = (sg neg (val q), 0)) := Lib.hid rfl
          -- the digits that are left, without noughts at the end
          have HFF : Hid (fitZ (sg neg (val l)) s = if -999999999999999999 ≤ sg neg (val q) ∧ sg neg (val q) ≤ 999999999999999999 then some (sg neg (val q), 0) else none) := Lib.hid (by rw [HF.out, ← hq.out, HE.out])
          obtain ⟨cT, vT, lT, eT⟩ := trim_spec q HQ.out
          have tr := fun w (h : Rd w A1 q) => trim_any A1 q c1 w h hl1 (by omega)
          have HTR := Lib.hid tr
          have HRT : Hid (Rd (w0.alloc (.cells #[.bool neg, .slice A l.length c] 99)) A1 (trimL q)) := Lib.hid (by rw [eT]; exact hrd1.out.take _)
          have HV := Lib.hid vT
          have HCT := Lib.hid cT
          obtain ⟨T, hT⟩ : ∃ T, trimL q = T := ⟨_, rfl⟩
          rw [hT] at HTR HRT HV HCT lT
          have hTc : T.length ≤ c1 := by omega
          have hTcI : (T.length : Int) ≤ (c1 : Int) := by omega
          clear tr cT vT eT hT HF hq HE
          by_cases h18 : 18 < T.length
          · have h18I : (18 : Int) < (T.length : Int) := by omega
            have hbig : (1000000000000000000 : Int) ≤ val q := by
              rw [← HV.out]
              rcases HCT.out.2 with h | h
              · rw [h] at h18; simp at h18
              · have x : (10 : Nat) ^ 18 ≤ 10 ^ (T.length - 1) := Nat.pow_le_pow_right (by decide) (by omega)
                have e2 : (((10 : Nat) ^ (T.length - 1) : Nat) : Int) = 10 ^ (T.length - 1) := by simp
                have := Int.ofNat_le.2 x
                rw [← e2] at h
                have e3 : ((10 ^ 18 : Nat) : Int) = 1000000000000000000 := by decide
                omega
            have hnone : fitZ (sg neg (val l)) s = none := by rw [HFF.out, if_neg]; unfold sg; split <;> omega
            have h1 := HRN.out; have h2 := HRK.out; have h3 := HRO.out
            rw [hnone] at h1 h2 h3
            obtain rfl : (0 : Int) = rn := h1
            obtain rfl : (0 : Int) = rk := h2
            obtain rfl : false = ro := h3
            clear hnone hbig
            go_wp2_with (go_at_call 91; refine (HTR.out _ hrd1.out).mono ?_; rintro e w' ⟨rfl, rfl⟩)
            exact bodyPost_ret (v := .tuple #[.int .i64 0, .int .i64 0, .bool false]) (by simp [results, Tryz.results80, go_sem]) rfl ⟨rfl, ba (Below.refl _ _)⟩
          · have h18I : ¬ (18 : Int) < (T.length : Int) := by omega
            have hsmall : 0 ≤ val T ∧ val T < 1000000000000000000 := by
              have a := val_nonneg T HCT.out.1
              have b := val_lt T HCT.out.1
              have x : (10 : Nat) ^ T.length ≤ 10 ^ 18 := Nat.pow_le_pow_right (by decide) (by omega)
              have e2 : (((10 : Nat) ^ T.length : Nat) : Int) = 10 ^ T.length := by simp
              have := Int.ofNat_le.2 x
              rw [← e2] at b
              have e3 : ((10 ^ 18 : Nat) : Int) = 1000000000000000000 := by decide
              omega
            have hsome : fitZ (sg neg (val l)) s = some (sg neg (val T), 0) := by rw [HFF.out, ← HV.out, if_pos]; unfold sg; split <;> omega
            have h1 := HRN.out; have h2 := HRK.out; have h3 := HRO.out
            rw [hsome] at h1 h2 h3
            obtain rfl : sg neg (val T) = rn := h1
            obtain rfl : ((0 : Nat) : Int) = rk := h2
            obtain rfl : true = ro := h3
            have HSM := Lib.hid hsmall
            clear hsome hsmall
            go_wp2_with (go_at_call 91; refine (HTR.out _ hrd1.out).mono ?_; rintro e w' ⟨rfl, rfl⟩)
            go_loop [8, 9] (fun s8 s9 => ∃ (i' : Nat) (v : Int), s9 = .int .i64 ((i' : Int) - 1) ∧ s8 = .int .i64 v ∧ i' ≤ T.length ∧ Hid (v = val (T.drop i'))) (fun _ s9 => (intOf s9 + 1).toNat)
            case atStart => exact ⟨T.length, 0, rfl, rfl, Nat.le_refl _, Lib.hid (by rw [List.drop_length]; rfl)⟩
            case round =>
              obtain ⟨i', v, rfl, rfl, hi', hv⟩ := hrel
              cases i' with
              | zero =>
                have hgo : ¬ (0 : Int) ≤ (((0 : Nat) : Int) - 1) := by omega
                obtain rfl : v = val T := by rw [hv.out, List.drop_zero]
                clear hv
                have ha := HSM.out
                have w1 : IntKind.i64.wrap (-(val T)) = -(val T) := by rw [IntKind.wrap_i64]; omega
                clear ha
                cases neg with
                | false =>
                  go_wp2
                  exact bodyPost_ret (v := .tuple #[.int .i64 (val T), .int .i64 0, .bool true]) (by simp [results, Tryz.results80, go_sem]) rfl ⟨rfl, ba (Below.refl _ _)⟩
                | true =>
                  go_wp2
                  exact bodyPost_ret (v := .tuple #[.int .i64 (-(val T)), .int .i64 0, .bool true]) (by simp [results, Tryz.results80, go_sem]) rfl ⟨rfl, ba (Below.refl _ _)⟩
              | succ i' =>
                have hlt : i' < T.length := by omega
                have hT0 : ¬ T = [] := by intro e; rw [e] at hlt; simp at hlt
                obtain ⟨ad2, hA, hcell2⟩ := HRT.out hT0
                have hx2 := hcell2 i' _ (List.getElem?_eq_getElem hlt)
                have e1 : T.drop i' = T[i'] :: T.drop (i' + 1) := List.drop_eq_getElem_cons hlt
                have hdig : 0 ≤ T[i'] ∧ T[i'] ≤ 9 := HCT.out.1 _ (List.getElem_mem hlt)
                have hle : val (T.drop i') ≤ val T := by
                  rw [val_drop T HCT.out.1 i']
                  exact Int.ediv_le_self _ HSM.out.1
                have hnn := val_nonneg _ (isDig_drop HCT.out.1 (i' + 1))
                have e2 : val (T.drop i') = T[i'] + 10 * val (T.drop (i' + 1)) := by rw [e1]; rfl
                have hsm := HSM.out.2
                obtain ⟨x, hx⟩ : ∃ x, T[i'] = x := ⟨_, rfl⟩
                rw [hx] at hx2 e2 hdig
                rw [← hv.out] at e2 hnn
                have wm : IntKind.i64.wrap (10 * v) = 10 * v := by rw [IntKind.wrap_i64]; omega
                have wa : IntKind.i64.wrap (10 * v + x) = 10 * v + x := by rw [IntKind.wrap_i64]; omega
                have wj : IntKind.i64.wrap (((i' + 1 : Nat) : Int) - 1 - 1) = (i' : Int) - 1 := by rw [IntKind.wrap_i64]; omega
                have ei : (((i' + 1 : Nat) : Int) - 1) = (i' : Int) := by omega
                have hgo : (0 : Int) ≤ (i' : Int) := by omega
                have hltI : (i' : Int) < (T.length : Int) := by omega
                have hn : Hid (10 * v + x = val (T.drop i')) := Lib.hid (by omega)
                cases hA
                clear hcell2 e1 hle hnn e2 hsm hx hv hdig
                rw [ei] at wj
                rw [ei]
                go_wp2
                go_round
                case rel => exact ⟨i', _, rfl, rfl, by omega, hn⟩
                case measure => first | (simp [intOf]; done) | (simp [intOf]; omega)
end Go.Proofs
