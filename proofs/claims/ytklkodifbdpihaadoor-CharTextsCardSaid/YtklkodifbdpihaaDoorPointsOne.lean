/- The literal that Points hands on adds one number to the row. No condition beyond what the theorems state. -/
import Derived.Test.YtklkodifbdpihaaDoorSub
import Derived.Test.YtklkodifbdpihaaDoorPoints
namespace Go.Proofs.YtklkodifbdpihaaDoor
open Go.RowKit Go.Lib
set_option maxRecDepth 100000
/-- block b is one cell of the slices' type that holds v -/
def BkS (W : World) (b : Nat) (v : Value) : Prop := W.heap[b]? = some (.cells #[v] 26 (0, 0))
theorem BkS.lt {W : World} {b : Nat} {v : Value} (h : BkS W b v) : b < W.heap.size := (Array.getElem?_eq_some_iff.1 h).1
theorem BkS.cell {W : World} {b : Nat} {v : Value} (h : BkS W b v) : W.cell? ⟨b, 0, none⟩ = some v := by
  unfold BkS at h; simp [World.cell?, h]
theorem BkS.frozen {W : World} {b : Nat} {v : Value} (h : BkS W b v) : W.frozen? ⟨b, 0, none⟩ = false := by
  unfold BkS at h; simp [World.frozen?, h]
theorem BkS.put {W : World} {b : Nat} {v : Value} (h : BkS W b v) (u : Value) : BkS (W.setCell ⟨b, 0, none⟩ u) b u := by
  unfold BkS at h ⊢; simp [World.setCell, Array.getElem?_modify, h]
theorem own_ne_box {W : World} {base n : Nat} {v u : Value} {xs : List Value} {b : Nat} (h : W.ownsRow base 3 1 v n xs) (hb : BkS W b u) : some b ≠ v.ownBlock := by
  rcases h.2 with ⟨rfl, _⟩ | ⟨g, cap, cur, rfl, _, hg, _⟩
  · simp [Value.ownBlock]
  · intro e
    have : b = g := by simpa [Value.ownBlock] using e
    subst this
    unfold BkS at hb
    rw [hg] at hb
    injection hb with hb
    injection hb with _ ht
    cases ht
theorem own_put {W : World} {base n : Nat} {v u : Value} {xs : List Value} {b : Nat} (h : W.ownsRow base 3 1 v n xs) (hb : some b ≠ v.ownBlock) : (W.setCell ⟨b, 0, none⟩ u).ownsRow base 3 1 v n xs := by
  refine ⟨h.1, ?_⟩
  rcases h.2 with h0 | ⟨g, cap, cur, hv, h1, hg, rest⟩
  · exact .inl h0
  · refine .inr ⟨g, cap, cur, hv, h1, ?_, rest⟩
    rw [Below.heap_setCell W ⟨b, 0, none⟩ u g (fun e => hb (by subst hv; simp [Value.ownBlock, e]))]
    exact hg
theorem own_shape {W : World} {base n : Nat} {v : Value} {xs : List Value} (h : W.ownsRow base 3 1 v (n + 1) xs) : ∃ g cap, v = .slice (some ⟨g, 0, none⟩) (n + 1) cap := by
  rcases h.2 with ⟨_, hn⟩ | ⟨g, cap, _, hv, _⟩
  · omega
  · exact ⟨g, cap, hv⟩
theorem box_grown {W w3 : World} {base n : Nat} {v u : Value} {xs : List Value} {B : Nat} {o : Obj} (h : W.ownsRow base 3 1 v n xs) (hb : BkS W B u) (hg : (W.alloc o).grownBy w3 v.ownBlock) : BkS w3 B u :=
  (hg.block B (by have := hb.lt; simp; omega) (own_ne_box h hb)).trans ((Below.heap_alloc W o B hb.lt).trans hb)
def ptsStep (base B it : Nat) (W0 : World) (s : ByteArray) (pos n : Nat) (xs : List Value) (e : Ending) (w' : World) : Prop :=
  e = .returned (.bool true) ∧ w'.heap[it]? = some (.stringIter s pos) ∧ Below base W0 w' ∧ ∃ v, BkS w' B v ∧ w'.ownsRow base 3 1 v n xs
set_option maxHeartbeats 2000000 in
theorem ptsOne_any (base B it : Nat) (k a : Int) (r : Nat) (hr : r ≤ 1114111) (s : ByteArray) (pos : Nat) (v : Value) (n : Nat) (xs : List Value) (W0 W : World) (hn : n ≤ 1099511627776) (hB : base ≤ B) (hit0 : it ≠ B)
    (hb : Below base W0 W) (hW : base ≤ W0.heap.size) (hbox : BkS W B v) (hown : W.ownsRow base 3 1 v n xs) (hit : W.heap[it]? = some (.stringIter s pos)) :
    Calls Tryd.prog 41 #[.int .i64 k, .int .i64 a, .int .i32 r, .pointer (some ⟨B, 0, none⟩)] W (ptsStep base B it W0 s pos (n + 1) (xs ++ [.int .i64 r])) := by
  obtain ⟨i0, hi, hz0, hz1, hz2⟩ := info_parts int_info
  have hc := hbox.cell
  have hbs : base ≤ W.heap.size := Nat.le_trans hW hb.size
  have hitlt : it < W.heap.size := (Array.getElem?_eq_some_iff.1 hit).1
  go_enter Tryd.func41, Tryd.ntmps41
  go_wp2_with (at_builtin; go_must (refine wpList_append_own _ rfl (.tmp 8) (.tmp 11) 26 rfl base 3 i0 (.int .i64 0) 1 8 Tryd.underlying26 hi hz0 hz1 hz2 rfl (by decide) v n xs rfl (hown.alloc _) ⟨W.heap.size, 0, none⟩ 1 1 [.int .i64 (r : Int)] rfl rfl (cell_one_new _ _ _) (by intro u hu; simp at hu; subst hu; rfl) (by unfold maxLen; omega) (by omega) (by simp; omega) ?_; intro v3 w3 hown3 hgrow3 hnil3; obtain ⟨g3, cap3, rfl⟩ := own_shape hown3; have hb3 := box_grown hown hbox hgrow3; have hc3 := hb3.cell; have hf3 := hb3.frozen; have H3 := Lib.hid hb3; clear hb3))
  go_ret
  have hb3 := H3.out
  have hit3 : w3.heap[it]? = some (.stringIter s pos) := (hgrow3.block it (by simp; omega) (own_ne_iter hown hit)).trans ((Below.heap_alloc W _ it hitlt).trans hit)
  refine ⟨rfl, ?_, ?_, _, hb3.put _, own_put hown3 (own_ne_box hown3 hb3)⟩
  · exact (Below.heap_setCell w3 ⟨B, 0, none⟩ _ it hit0).trans hit3
  · exact ((hb.alloc hbs _).grown hgrow3 (by simp; omega) (fun j hj => (hown.lt j hj).1)).setCell (p := ⟨B, 0, none⟩) hB _
end Go.Proofs.YtklkodifbdpihaaDoor
