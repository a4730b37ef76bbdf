/- The reference lists the runes of a valid text and refuses any other. No condition beyond what the theorems state. -/
import Derived.Test.YtklkodifbdpihaaDoorNext
import Derived.Laws.AppendOwn
import Derived.OwnWalk
import Derived.Below
import Derived.Laws.OwnMore
import Derived.Deep.LoopGhost
import Derived.WalkSpells
namespace Go.Proofs.YtklkodifbdpihaaDoor
open Go.RowKit Go.Lib
set_option maxRecDepth 100000
theorem int_info : (Tryd.prog.info? 3).map (fun i => (i.zero, i.size, i.bytes)) = some (some (.int .i64 0), 1, 8) := by kernel_rfl
def cellsI (l : List Nat) : List Value := l.map fun (r : Nat) => Value.int .i64 (r : Int)
theorem cell_one_new (w : World) (x : Value) (t : TypeId) : ∀ j u, [x][j]? = some u → (w.alloc (.cells #[x] t)).cell? ((⟨w.heap.size, 0, none⟩ : Addr).add j) = some u := by
  intro j u hj
  match j, hj with
  | 0, hj => simp at hj; subst hj; simp [Addr.add]
  | (j + 1), hj => simp at hj
theorem cellsI_snoc (l : List Nat) (r : Nat) : cellsI (l ++ [r]) = cellsI l ++ [.int .i64 (r : Int)] := by simp [cellsI]
def ptsOut (B : Nat) (w : World) (l : List UInt8) (e : Ending) (w' : World) : Prop :=
  (validD l = true ∧ ∃ v, e = .returned (.tuple #[v, .bool true]) ∧ w'.ownsRow B 3 1 v (runes l).length (cellsI (runes l)) ∧ Below B w w') ∨
  (validD l = false ∧ e = .returned (.tuple #[.slice none 0 0, .bool false]) ∧ Below B w w')
set_option maxHeartbeats 1000000 in
theorem points_ref (s : ByteArray) (w : World) (hs : s.size ≤ 1099511627776) : Calls Tryd.prog 17 #[.string s] w (ptsOut w.heap.size w s.data.toList) := by
  obtain ⟨i0, hi, hz0, hz1, hz2⟩ := info_parts int_info
  obtain ⟨l, hl⟩ : ∃ l, s.data.toList = l := ⟨_, rfl⟩
  have hsz : s.size = l.length := by rw [← hl]; simp
  rw [hl]
  have HL := Lib.hid hl
  have HZ := Lib.hid hsz
  clear hl hsz
  go_enter Tryd.func17, Tryd.ntmps17
  go_wp2
  go_loopg [4, 5] s.size (fun gf s4 s5 wx => ∃ (pos : Nat) (pre : List Nat), s5 = .int .i64 pos ∧ pos ≤ s.size ∧ s.size ≤ pos + gf ∧ Hid (validD l = validD (l.drop pos)) ∧ Hid (runes l = pre ++ runes (l.drop pos)) ∧ pre.length ≤ pos ∧
      wx.ownsRow w.heap.size 3 1 s4 pre.length (cellsI pre) ∧ Below w.heap.size w wx)
  case atStart => exact ⟨0, [], rfl, by omega, by omega, Lib.hid rfl, Lib.hid rfl, by simp, ⟨rfl, .inl ⟨rfl, rfl⟩⟩, Below.refl _ _⟩
  case round =>
    obtain ⟨pos, pre, rfl, hp, hf, hv, hr, hle, hown, hb⟩ := hrel
    by_cases hlt : pos < s.size
    · have hne : l.drop pos ≠ [] := by
        intro h
        have := congrArg List.length h
        rw [List.length_drop, ← HZ.out] at this
        simp at this
        omega
      have hN : nextS (s.extract pos s.size) = nextL (l.drop pos) := by rw [next_drop, HL.out]
      have cN := next_any (s.extract pos s.size) wr (by simp; omega) (by unfold maxLen; simp; omega)
      unfold nextPost at cN
      rw [hN] at cN
      by_cases hbad : (decodeL (l.drop pos)).1 = 65533 ∧ (decodeL (l.drop pos)).2 = 1
      · have hV : Hid (validD l = false) := Lib.hid (by rw [hv.out, validD_step _ hne, if_pos hbad])
        have e0 : nextL (l.drop pos) = (0, 0) := by unfold nextL; rw [if_pos hbad]
        rw [e0] at cN
        clear hN hbad e0 hne
        have H := Lib.hid cN
        clear cN
        go_wp2_with (go_at_call 39; refine H.out.mono ?_; rintro e w' ⟨rfl, rfl⟩)
        go_ret2
        exact .inr ⟨hV.out, rfl, hb⟩
      · obtain ⟨R, hR⟩ : ∃ R, (decodeL (l.drop pos)).1 = R := ⟨_, rfl⟩
        obtain ⟨K, hK⟩ : ∃ K, (decodeL (l.drop pos)).2 = K := ⟨_, rfl⟩
        have hK1 : 1 ≤ K := by rw [← hK]; exact decodeL_width _
        have hK2 : pos + K ≤ s.size := by
          have := decodeL_le _ hne
          rw [hK, List.length_drop, ← HZ.out] at this
          omega
        have hR1 : R ≤ 1114111 := by rw [← hR]; exact decodeL_rune _
        have hV : Hid (validD l = validD (l.drop (pos + K))) := Lib.hid (by rw [hv.out, validD_step _ hne, if_neg hbad, List.drop_drop, hK])
        have hRR : Hid (runes l = (pre ++ [R]) ++ runes (l.drop (pos + K))) := Lib.hid (by rw [hr.out, runes_step _ hne, List.drop_drop, hK, hR]; simp)
        have e0 : nextL (l.drop pos) = (R, K) := by unfold nextL; rw [if_neg hbad, ← hR, ← hK]
        rw [e0] at cN
        clear hN hbad e0 hne hR hK hv hr
        have H := Lib.hid cN
        clear cN
        have k0 : ((K : Int) == 0) = false := by simp; omega
        obtain ⟨g', rfl⟩ : ∃ g', gk = g' + 1 := ⟨gk - 1, by omega⟩
        go_wp2_with (first
          | (go_at_call 39; refine H.out.mono ?_; rintro e w' ⟨rfl, rfl⟩)
          | (at_builtin; go_must (refine wpList_append_own _ rfl (.tmp 21) (.tmp 23) 26 rfl w.heap.size 3 i0 (.int .i64 0) 1 8 Tryd.underlying26 hi hz0 hz1 hz2 rfl (by decide) _ _ _ rfl (hown.alloc _) ⟨wr.heap.size, 0, none⟩ 1 1 [.int .i64 (R : Int)] rfl rfl (cell_one_new _ _ _) (by intro u hu; simp at hu; subst hu; rfl) (by unfold maxLen; omega) (by omega) (by have := hb.size; simp; omega) ?_; intro v3 w3 hown3 hgrow3 hnil3)))
        go_roundg g'
        case measure => omega
        case rel =>
          refine ⟨pos + K, pre ++ [R], by go_num, hK2, by omega, hV, hRR, by simp; omega, ?_, ?_⟩
          · rw [List.length_append, cellsI_snoc]; exact hown3
          · exact (hb.alloc hb.size _).grown hgrow3 (by have := hb.size; simp; omega) (fun j hj => (hown.lt j hj).1)
    · obtain rfl : pos = s.size := by omega
      have hnil : l.drop s.size = [] := List.drop_eq_nil_of_le (by rw [HZ.out]; omega)
      have hV : Hid (validD l = true) := Lib.hid (by rw [hv.out, hnil]; rfl)
      have hRR : Hid (runes l = pre) := Lib.hid (by rw [hr.out, hnil, runes_nil]; simp)
      clear hnil hv hr
      go_wp2
      go_ret2
      exact .inl ⟨hV.out, _, rfl, by rw [hRR.out]; exact hown, hb⟩
end Go.Proofs.YtklkodifbdpihaaDoor
