/- Package char counts characters; the literal that Sub hands on. No condition beyond what the theorems state. -/
import Derived.Test.YtklkodifbdpihaaDoorTrimNorm
import Derived.RegionTactic
import Derived.ChangeAlike
namespace Go.Proofs.YtklkodifbdpihaaDoor
open Go.RowKit Go.Lib
set_option maxRecDepth 100000
theorem runeCount_runes (s : ByteArray) : ∀ (f pos : Nat), s.size ≤ pos + f → Lib.runeCountFrom s f pos = (runes (s.data.toList.drop pos)).length
  | 0, pos, h => by rw [List.drop_eq_nil_of_le (by simp; omega)]; rfl
  | f + 1, pos, h => by
    unfold Lib.runeCountFrom
    by_cases hlt : pos < s.size
    · rw [if_pos hlt, runes_drop _ _ (by simpa using hlt), List.length_cons, decodeL_drop, runeCount_runes s f _ (by have := Lib.width_pos s pos; omega)]
      omega
    · rw [if_neg hlt, List.drop_eq_nil_of_le (by simp; omega)]; rfl
theorem len_runes (s : ByteArray) : Lib.runeCount s = (runes s.data.toList).length := by
  unfold Lib.runeCount
  rw [runeCount_runes s s.size 0 (by omega), List.drop_zero]
set_option maxHeartbeats 1000000 in
theorem len_any (s : ByteArray) (w : World) (hs : s.size ≤ 1099511627776) : Calls Tryd.prog 18 #[.string s] w fun e w' => e = .returned (.int .i64 ((runes s.data.toList).length : Nat)) ∧ Below w.heap.size w w' := by
  have c := Tryd.utf8_RuneCountInString s w (by omega)
  rw [len_runes] at c
  obtain ⟨n, hn⟩ : ∃ n, (runes s.data.toList).length = n := ⟨_, rfl⟩
  rw [hn] at c ⊢
  clear hn
  have C := Lib.hid c
  clear c
  go_enter Tryd.func18, Tryd.ntmps18
  go_wp2_with (go_at_call 40; refine C.out.mono ?_; rintro e w' ⟨rfl, pos, rfl⟩)
  go_ret
  exact ⟨rfl, (Below.refl _ _).alloc (Nat.le_refl _) _⟩

def ad (b : Nat) : Addr := ⟨b, 0, none⟩
def subWorld (W : World) (b1 b3 : Nat) (k F C pos : Int) : World :=
  if C ≤ k - F then (if k = F then W.setCell ⟨b1, 0, none⟩ (.int .i64 pos) else W).setCell ⟨b3, 0, none⟩ (.int .i64 pos) else (if k = F then W.setCell ⟨b1, 0, none⟩ (.int .i64 pos) else W)
set_option maxHeartbeats 2000000 in
theorem subOne_any (b0 b1 b2 b3 : Nat) (k pos F C fi en : Int) (r : Value) (W : World) (hk : 0 ≤ k) (hk2 : k ≤ 9223372036854775807) (hF : 0 ≤ F) (hF2 : F ≤ 9223372036854775807)
    (h0 : W.cell? ⟨b0, 0, none⟩ = some (.int .i64 F)) (h1 : W.cell? ⟨b1, 0, none⟩ = some (.int .i64 fi)) (h2 : W.cell? ⟨b2, 0, none⟩ = some (.int .i64 C)) (h3 : W.cell? ⟨b3, 0, none⟩ = some (.int .i64 en))
    (z1 : W.frozen? ⟨b1, 0, none⟩ = false) (z3 : W.frozen? ⟨b3, 0, none⟩ = false) (n01 : b0 ≠ b1) (n12 : b1 ≠ b2) (n13 : b1 ≠ b3) :
    Calls Tryd.prog 42 #[.int .i64 k, .int .i64 pos, r, .pointer (some ⟨b0, 0, none⟩), .pointer (some ⟨b1, 0, none⟩), .pointer (some ⟨b2, 0, none⟩), .pointer (some ⟨b3, 0, none⟩)] W fun e w' =>
      e = .returned (.bool (decide (¬ C ≤ k - F))) ∧ w' = subWorld W b1 b3 k F C pos := by
  by_cases c1 : k = F
  · subst c1
    by_cases c2 : C ≤ k - k
    · have E : Hid (subWorld W b1 b3 k k C pos = (W.setCell ⟨b1, 0, none⟩ (.int .i64 pos)).setCell ⟨b3, 0, none⟩ (.int .i64 pos)) := Lib.hid (by unfold subWorld; rw [if_pos c2, if_pos rfl])
      rw [decide_eq_false (by omega : ¬ ¬ C ≤ k - k)]
      have c2' : C ≤ 0 := by omega
      clear c2
      go_enter Tryd.func42, Tryd.ntmps42
      go_wp2
      go_ret
      exact ⟨rfl, E.out.symm⟩
    · have E : Hid (subWorld W b1 b3 k k C pos = W.setCell ⟨b1, 0, none⟩ (.int .i64 pos)) := Lib.hid (by unfold subWorld; rw [if_neg c2, if_pos rfl])
      rw [decide_eq_true c2]
      have c2' : ¬ C ≤ 0 := by omega
      clear c2
      go_enter Tryd.func42, Tryd.ntmps42
      go_wp2
      go_ret
      exact ⟨rfl, E.out.symm⟩
  · have c1' : (k == F) = false := by simpa using c1
    by_cases c2 : C ≤ k - F
    · have E : Hid (subWorld W b1 b3 k F C pos = W.setCell ⟨b3, 0, none⟩ (.int .i64 pos)) := Lib.hid (by unfold subWorld; rw [if_pos c2, if_neg c1])
      rw [decide_eq_false (by omega : ¬ ¬ C ≤ k - F)]
      clear c1
      go_enter Tryd.func42, Tryd.ntmps42
      go_wp2
      go_ret
      exact ⟨rfl, E.out.symm⟩
    · have E : Hid (subWorld W b1 b3 k F C pos = W) := Lib.hid (by unfold subWorld; rw [if_neg c2, if_neg c1])
      rw [decide_eq_true c2]
      clear c1
      go_enter Tryd.func42, Tryd.ntmps42
      go_wp2
      go_ret
      exact ⟨rfl, E.out.symm⟩
end Go.Proofs.YtklkodifbdpihaaDoor
