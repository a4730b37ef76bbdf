/- The loop under Sub finds the two ends of the part. No condition beyond what the theorems state. -/
import Derived.Test.YtklkodifbdpihaaDoorSubOne
import Derived.Test.YtklkodifbdpihaaDoorMathS
namespace Go.Proofs.YtklkodifbdpihaaDoor
open Go.RowKit Go.Lib
set_option maxRecDepth 100000
/-- block b is one cell of int's type that holds v -/
def Bk (W : World) (b : Nat) (v : Value) : Prop := W.heap[b]? = some (.cells #[v] 3 (0, 0))
theorem Bk.lt {W : World} {b : Nat} {v : Value} (h : Bk W b v) : b < W.heap.size := (Array.getElem?_eq_some_iff.1 h).1
theorem Bk.cell {W : World} {b : Nat} {v : Value} (h : Bk W b v) : W.cell? ⟨b, 0, none⟩ = some v := by
  unfold Bk at h; simp [World.cell?, h]
theorem Bk.frozen {W : World} {b : Nat} {v : Value} (h : Bk W b v) : W.frozen? ⟨b, 0, none⟩ = false := by
  unfold Bk at h; simp [World.frozen?, h]
theorem Bk.put {W : World} {b : Nat} {v : Value} (h : Bk W b v) (u : Value) : Bk (W.setCell ⟨b, 0, none⟩ u) b u := by
  unfold Bk at h ⊢; simp [World.setCell, Array.getElem?_modify, h]
theorem Bk.far {W : World} {b c : Nat} {v : Value} (h : Bk W b v) (hc : b ≠ c) (u : Value) : Bk (W.setCell ⟨c, 0, none⟩ u) b v := (Below.heap_setCell W ⟨c, 0, none⟩ u b hc).trans h
theorem Bk.iter {W : World} {b it : Nat} {v : Value} (h : Bk W b v) (hb : b ≠ it) (s : ByteArray) (p : Nat) : Bk (W.iterAt it s p) b v := (Lib.iterAt_other W it b s p hb).trans h
theorem iter_setCell {W : World} {it c : Nat} {o : Obj} (h : W.heap[it]? = some o) (hc : it ≠ c) (u : Value) : (W.setCell ⟨c, 0, none⟩ u).heap[it]? = some o := (Below.heap_setCell W ⟨c, 0, none⟩ u it hc).trans h

def subSt (B b0 b1 b2 b3 : Nat) (W0 : World) (s : ByteArray) (f : Nat) (C : Int) (k pos : Nat) (W : World) : Prop :=
  Below B W0 W ∧ Bk W b0 (.int .i64 f) ∧ Bk W b2 (.int .i64 C) ∧ Bk W b3 (.int .i64 s.size) ∧ ∃ fi, Bk W b1 (.int .i64 (fi : Nat)) ∧ SubInv s.data.toList f C k pos fi
def subEnd (B b1 b3 : Nat) (W0 : World) (s : ByteArray) (f : Nat) (C : Int) (W : World) : Prop :=
  Below B W0 W ∧ ∃ fi en : Nat, Bk W b1 (.int .i64 fi) ∧ Bk W b3 (.int .i64 en) ∧ fi ≤ en ∧ en ≤ s.size ∧ (s.extract fi en).data.toList = subL (runes s.data.toList) f C
theorem e42 : ∀ args w, (callFunc 42 args).run Tryd.prog w = .ok (.enter 42 args) w := enters_of Tryd.func42 (by kernel_rfl) rfl
theorem subAll (B b0 b1 b2 b3 : Nat) (s : ByteArray) (f : Nat) (C : Int) (W0 : World) (hs : s.size ≤ maxLen) (hf : f ≤ 9223372036854775807) (hv : validD s.data.toList = true) (hC : C ≤ 0 → f = 0)
    (h0 : Bk W0 b0 (.int .i64 f)) (h1 : Bk W0 b1 (.int .i64 s.size)) (h2 : Bk W0 b2 (.int .i64 C)) (h3 : Bk W0 b3 (.int .i64 s.size)) (n01 : b0 ≠ b1) (n12 : b1 ≠ b2) (n13 : b1 ≠ b3) (_n03 : b0 ≠ b3) (_n23 : b2 ≠ b3)
    (hB1 : B ≤ b1) (hB3 : B ≤ b3) :
    Calls Tryd.prog 28 #[.string s, .func (.func 42) #[] #[.pointer (some ⟨b0, 0, none⟩), .pointer (some ⟨b1, 0, none⟩), .pointer (some ⟨b2, 0, none⟩), .pointer (some ⟨b3, 0, none⟩)]] W0 fun e w' =>
      ∃ b, e = .returned (.bool b) ∧ subEnd B b1 b3 W0 s f C w' := by
  have hz : s.data.toList.length = s.size := by simp
  refine (all_inv 42 _ e42 s W0 hs (subSt B b0 b1 b2 b3 W0 s f C) (subEnd B b1 b3 W0 s f C) ?_ ?_).mono ?_
  · have hb : Below W0.heap.size W0 (W0.iter s 0) := below_iter W0 s
    have keep : ∀ {b v}, Bk W0 b v → Bk (W0.iter s 0) b v := fun {b v} h => (hb.block b h.lt).trans h
    exact ⟨hb.mono (Nat.le_of_lt (Nat.lt_of_le_of_lt hB1 h1.lt)), keep h0, keep h2, keep h3, s.size, keep h1, by rw [← hz]; exact subInv0 _ f C hv⟩
  · rintro k pos W hk hp ⟨hb, k0, k2, k3, fi, k1, hI⟩ hit
    have ne : ∀ {b v}, Bk W0 b v → b ≠ W0.heap.size := fun {b v} h => Nat.ne_of_lt h.lt
    have hb' : Below B W0 (W.iterAt W0.heap.size s (pos + (Utf8.decode s pos).2)) := Lib.below_iterAt hb (Nat.le_of_lt (Nat.lt_of_le_of_lt hB1 h1.lt)) s _
    have hit' := Lib.iterAt_heap W W0.heap.size s pos (pos + (Utf8.decode s pos).2) hit
    have q0 := k0.iter (ne h0) s (pos + (Utf8.decode s pos).2)
    have q1 := k1.iter (ne h1) s (pos + (Utf8.decode s pos).2)
    have q2 := k2.iter (ne h2) s (pos + (Utf8.decode s pos).2)
    have q3 := k3.iter (ne h3) s (pos + (Utf8.decode s pos).2)
    unfold maxLen at hs
    refine (subOne_any b0 b1 b2 b3 k pos f C fi s.size (.int .i32 (Utf8.decode s pos).1) _ (by omega) (by omega) (by omega) (by omega) q0.cell q1.cell q2.cell q3.cell q1.frozen q3.frozen n01 n12 n13).mono ?_
    rintro e w' ⟨rfl, rfl⟩
    have hpl : pos < s.data.toList.length := by omega
    unfold subWorld
    by_cases c : C ≤ (k : Int) - f
    · rw [if_pos c, decide_eq_false (by omega : ¬ ¬ C ≤ (k : Int) - f)]
      right
      obtain ⟨a1, a2⟩ := subInv_stop hI hC c
      refine ⟨rfl, ?_⟩
      by_cases e : (k : Int) = f
      · have e' : k = f := by omega
        rw [if_pos e] 
        rw [if_pos e'] at a1 a2
        exact ⟨(hb'.setCell (p := ⟨b1, 0, none⟩) hB1 _).setCell (p := ⟨b3, 0, none⟩) hB3 _, pos, pos, (q1.put _).far n13 _, (q3.far n13.symm _).put _, Nat.le_refl _, by omega, by rw [extract_list]; exact a2⟩
      · have e' : ¬ k = f := by omega
        rw [if_neg e]
        rw [if_neg e'] at a1 a2
        exact ⟨hb'.setCell (p := ⟨b3, 0, none⟩) hB3 _, fi, pos, q1.far n13 _, q3.put _, a1, by omega, by rw [extract_list]; exact a2⟩
    · rw [if_neg c, decide_eq_true c]
      left
      have st := subInv_step hI hpl c
      rw [decodeL_drop] at st
      by_cases e : (k : Int) = f
      · have e' : k = f := by omega
        rw [if_pos e]
        rw [if_pos e'] at st
        exact ⟨rfl, iter_setCell hit' (ne h1).symm _, hb'.setCell (p := ⟨b1, 0, none⟩) hB1 _, q0.far n01 _, q2.far n12.symm _, q3.far n13.symm _, pos, q1.put _, st⟩
      · have e' : ¬ k = f := by omega
        rw [if_neg e]
        rw [if_neg e'] at st
        exact ⟨rfl, hit', hb', q0, q2, q3, fi, q1, st⟩
  · rintro e w' (⟨rfl, k, hk, hb, k0, k2, k3, fi, k1, hI⟩ | ⟨rfl, h⟩)
    · rw [← hz] at hI
      obtain ⟨a1, a2⟩ := subInv_end hI hC
      exact ⟨true, rfl, hb, fi, s.size, k1, k3, by omega, Nat.le_refl _, by rw [extract_list, ← hz]; exact a2⟩
    · exact ⟨false, rfl, h⟩
end Go.Proofs.YtklkodifbdpihaaDoor
