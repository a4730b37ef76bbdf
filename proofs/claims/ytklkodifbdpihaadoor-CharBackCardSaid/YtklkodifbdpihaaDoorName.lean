/- Package char tells names. No condition beyond what the theorems state. -/
import Derived.Test.YtklkodifbdpihaaDoorValid
namespace Go.Proofs.YtklkodifbdpihaaDoor
open Go.RowKit Go.Lib
set_option maxRecDepth 100000
theorem validX_of {l : List UInt8} (h : validX l = false) : nameX l = false := by unfold nameX; rw [h]; rfl
theorem nameX_nil : nameX [] = false := by unfold nameX nameB; rw [runes_nil]; simp
theorem nameX_of {l : List UInt8} (hv : validX l = true) (hne : l ≠ []) : nameX l = allQ okB 0 (runes l) := by
  unfold nameX; rw [hv, allQ_nameB]
  · rfl
  · rw [runes_step l hne]; simp
theorem one_str (w : World) (s : ByteArray) (hs : s.size ≤ maxLen) : strsAt (w.alloc (.cells #[.string s] 9)) (some ⟨w.heap.size, 0, none⟩) [s] := by
  intro k hk
  have : k = 0 := by simp at hk; omega
  subst this
  exact ⟨w.heap.size, rfl, by simp, by simp, hs⟩
set_option maxHeartbeats 1000000 in
theorem name_any (s : ByteArray) (w : World) (hs : s.size ≤ maxLen) (hT : tabs w) : Calls Tryd.prog 11 #[.string s] w fun e w' => e = .returned (.bool (nameX s.data.toList)) ∧ Below w.heap.size w w' := by
  by_cases h0 : s.data.toList = []
  · have E := Lib.hid h0
    have h1 : s.toList = [] := by rw [ByteArray.toList_eq]; exact h0
    clear h0
    go_enter Tryd.func11, Tryd.ntmps11
    go_wp2
    go_ret
    exact ⟨ret_bool (by rw [E.out, nameX_nil]), Below.refl _ _⟩
  · have h1 : ¬ s.toList = [] := by rw [ByteArray.toList_eq]; exact h0
    have h2 : (!s.toList.isEmpty) = true := by simpa using h1
    have h3 : s.toList.isEmpty = false := by simpa using h1
    have cV := valid_any (some ⟨w.heap.size, 0, none⟩) 1 1 [s] (w.alloc (.cells #[.string s] 9)) rfl (by omega) (Utf8Tabs_below hT ((Below.refl _ _).alloc (Nat.le_refl _) _)) (one_str w s hs)
    have cA := fun W => allName s W hs
    have hvs : [s].all vS = validX s.data.toList := by simp [vS]
    rw [hvs] at cV
    clear hvs
    have hba : Below w.heap.size w (w.alloc (.cells #[.string s] 9)) := (Below.refl _ _).alloc (Nat.le_refl _) _
    obtain ⟨X, hX⟩ : ∃ X, validX s.data.toList = X := ⟨_, rfl⟩
    rw [hX] at cV
    have CV := Lib.hid cV
    have CA := Lib.hid cA
    clear cV cA
    have E0 := Lib.hid h0
    clear h0
    cases X
    · have E := Lib.hid (validX_of hX)
      clear hX
      go_enter Tryd.func11, Tryd.ntmps11
      go_wp2_with (go_at_call 10; refine CV.out.mono ?_; rintro e w1 ⟨rfl, hb1⟩)
      go_ret
      exact ⟨ret_bool E.out.symm, hba.trans (hb1.mono hba.size)⟩
    · have E := Lib.hid (nameX_of hX E0.out)
      clear hX
      go_enter Tryd.func11, Tryd.ntmps11
      go_wp2_with (first
        | (go_at_call 10; refine CV.out.mono ?_; rintro e w1 ⟨rfl, hb1⟩)
        | (go_at_call 28; refine (CA.out _).mono ?_; rintro e w2 ⟨rfl, hb2⟩))
      go_ret
      exact ⟨ret_bool E.out.symm, (hba.trans (hb1.mono hba.size)).trans (hb2.mono (Nat.le_trans hba.size hb1.size))⟩
end Go.Proofs.YtklkodifbdpihaaDoor
