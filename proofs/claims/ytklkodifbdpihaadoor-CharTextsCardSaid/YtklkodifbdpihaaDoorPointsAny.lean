/- Package char lists the runes of a text. No condition beyond what the theorems state. -/
import Derived.Test.YtklkodifbdpihaaDoorPointsOne
import Derived.Laws.MakeOwn
namespace Go.Proofs.YtklkodifbdpihaaDoor
open Go.RowKit Go.Lib
set_option maxRecDepth 100000
theorem e41 : ∀ args w, (callFunc 41 args).run Tryd.prog w = .ok (.enter 41 args) w := enters_of Tryd.func41 (by kernel_rfl) rfl
def ptsSt (base B : Nat) (W0 : World) (l : List UInt8) (k pos : Nat) (W : World) : Prop :=
  Below base W0 W ∧ k ≤ (runes l).length ∧ runes (l.drop pos) = (runes l).drop k ∧ ∃ v, BkS W B v ∧ W.ownsRow base 3 1 v k (cellsI ((runes l).take k))
def ptsEnd (base B : Nat) (W0 : World) (l : List UInt8) (e : Ending) (w' : World) : Prop :=
  e = .returned (.bool true) ∧ Below base W0 w' ∧ ∃ v, BkS w' B v ∧ w'.ownsRow base 3 1 v (runes l).length (cellsI (runes l))
theorem own_iter {W : World} {base n it : Nat} {v : Value} {xs : List Value} {s : ByteArray} {p : Nat} (h : W.ownsRow base 3 1 v n xs) (hk : W.heap[it]? = some (.stringIter s p)) (p' : Nat) : (W.iterAt it s p').ownsRow base 3 1 v n xs := own_iterAt h hk p'
theorem own_below {W W' : World} {base n : Nat} {v : Value} {xs : List Value} (h : W.ownsRow base 3 1 v n xs) (hb : Below W.heap.size W W') : W'.ownsRow base 3 1 v n xs := by
  refine ⟨h.1, ?_⟩
  rcases h.2 with h0 | ⟨g, cap, cur, hv, h1, hg, rest⟩
  · exact .inl h0
  · exact .inr ⟨g, cap, cur, hv, h1, (hb.block g (Array.getElem?_eq_some_iff.1 hg).1).trans hg, rest⟩
theorem ptsAll (base B : Nat) (s : ByteArray) (v : Value) (W0 : World) (hs : s.size ≤ 1099511627776) (hB : base ≤ B) (hbox : BkS W0 B v) (hown : W0.ownsRow base 3 1 v 0 []) :
    Calls Tryd.prog 28 #[.string s, .func (.func 41) #[] #[.pointer (some ⟨B, 0, none⟩)]] W0 (ptsEnd base B W0 s.data.toList) := by
  have hz : s.data.toList.length = s.size := by simp
  have hbase : base ≤ W0.heap.size := Nat.le_of_lt (Nat.lt_of_le_of_lt hB hbox.lt)
  refine (all_inv 41 _ e41 s W0 (by unfold maxLen; omega) (ptsSt base B W0 s.data.toList) (fun _ => False) ?_ ?_).mono ?_
  · have hb : Below W0.heap.size W0 (W0.iter s 0) := below_iter W0 s
    exact ⟨hb.mono hbase, Nat.zero_le _, by simp, v, (hb.block B hbox.lt).trans hbox, own_below hown hb⟩
  · rintro k pos W hk hp ⟨hb, hkl, hr, v', hbx, hw⟩ hit
    have hne : B ≠ W0.heap.size := Nat.ne_of_lt hbox.lt
    have hr' := runes_drop s.data.toList pos (by omega)
    rw [hr, decodeL_drop] at hr'
    have hkk : k < (runes s.data.toList).length := by
      rcases Nat.lt_or_ge k (runes s.data.toList).length with h' | h'
      · exact h'
      · rw [List.drop_eq_nil_of_le h'] at hr'; cases hr'
    rw [List.drop_eq_getElem_cons hkk] at hr'
    injection hr' with hr1 hr2
    have hit' := Lib.iterAt_heap W W0.heap.size s pos (pos + (Utf8.decode s pos).2) hit
    have hb' : Below base W0 (W.iterAt W0.heap.size s (pos + (Utf8.decode s pos).2)) := Lib.below_iterAt hb hbase s _
    have hbx' : BkS (W.iterAt W0.heap.size s (pos + (Utf8.decode s pos).2)) B v' := (Lib.iterAt_other W _ B s _ hne).trans hbx
    have hw' := own_iter hw hit (pos + (Utf8.decode s pos).2)
    have hrl := runes_le s.data.toList
    refine (ptsOne_any base B W0.heap.size k pos (Utf8.decode s pos).1 (rune_le s pos) s (pos + (Utf8.decode s pos).2) v' k _ W0 _ (by omega) hB hne.symm hb' hbase hbx' hw' hit').mono ?_
    rintro e w' ⟨rfl, g1, g2, v2, g3, g4⟩
    refine .inl ⟨rfl, g1, g2, by omega, hr2.symm, v2, g3, ?_⟩
    rw [List.take_succ_eq_append_getElem hkk, cellsI_snoc, hr1]
    exact g4
  · rintro e w' (⟨rfl, k, hk, hb, hkl, hr, v', hbx, hw⟩ | ⟨rfl, h⟩)
    · rw [List.drop_eq_nil_of_le (by rw [hz]; exact Nat.le_refl _), runes_nil] at hr
      have hkk : k = (runes s.data.toList).length := by
        have := congrArg List.length hr
        rw [List.length_nil, List.length_drop] at this
        omega
      subst hkk
      rw [List.take_of_length_le (Nat.le_refl _)] at hw
      exact ⟨rfl, hb, v', hbx, hw⟩
    · exact h.elim
def slicePost (B : Nat) (w : World) (xs : List Nat) (e : Ending) (w' : World) : Prop := ∃ v, e = .returned v ∧ w'.ownsRow B 3 1 v xs.length (cellsI xs) ∧ Below B w w'
set_option maxHeartbeats 2000000 in
theorem points_any (s : ByteArray) (w : World) (hs : s.size ≤ 1099511627776) : Calls Tryd.prog 20 #[.string s] w (slicePost w.heap.size w (runes s.data.toList)) := by
  have cL := len_any s w hs
  have hrl := runes_le s.data.toList
  have hz : s.data.toList.length = s.size := by simp
  obtain ⟨n, hn⟩ : ∃ n, (runes s.data.toList).length = n := ⟨_, rfl⟩
  rw [hn] at cL hrl
  have CL := Lib.hid cL
  clear cL
  obtain ⟨i0, hi, hz0, hz1, hz2⟩ := info_parts int_info
  have hnb : n ≤ 1099511627776 := by omega
  clear hrl hz
  have HN := Lib.hid hn
  clear hn
  go_enter Tryd.func20, Tryd.ntmps20
  go_wp2_with fail
  refine CL.out.mono ?_
  clear CL
  rintro e w1 ⟨rfl, hb1⟩
  obtain ⟨W0, hmk, hown0, hg0⟩ := run_make_own (P := Tryd.prog) w1 w.heap.size 26 3 i0 _ 1 Tryd.underlying26 hi hz0 hz1 .i64 .i64 n (by rw [hz2]; omega) (by unfold maxLen; omega) hb1.size
  have hb0 : Below w.heap.size w W0 := hb1.grown hg0 hb1.size (fun k hk => by cases hk)
  have ownA := hown0.alloc (.cells #[.slice (some ⟨w1.heap.size, 0, none⟩) 0 n] 26)
  have bxA : BkS (W0.alloc (.cells #[.slice (some ⟨w1.heap.size, 0, none⟩) 0 n] 26)) W0.heap.size (.slice (some ⟨w1.heap.size, 0, none⟩) 0 n) := heap_alloc_new W0 _
  have cA := ptsAll w.heap.size W0.heap.size s _ _ hs hb0.size bxA ownA
  have hbA := hb0.alloc hb0.size (.cells #[.slice (some ⟨w1.heap.size, 0, none⟩) 0 n] 26)
  have CA := Lib.hid cA
  have HBA := Lib.hid hbA
  clear cA ownA bxA hbA hown0 hg0 hb1
  go_wp2_with fail
  refine CA.out.mono ?_
  clear CA
  rintro e w2 ⟨rfl, hb2, v, hbx, hown⟩
  have hc := hbx.cell
  have HO := Lib.hid hown
  have HB2 := Lib.hid hb2
  clear hown hb2 hbx
  go_wp2
  go_ret
  exact ⟨v, rfl, HO.out, HBA.out.trans HB2.out⟩
end Go.Proofs.YtklkodifbdpihaaDoor
