/- Package char tells valid texts. No condition beyond what the theorems state. -/
import Derived.Test.YtklkodifbdpihaaDoorAllPure
namespace Go.Proofs.YtklkodifbdpihaaDoor
open Go.RowKit Go.Lib
set_option maxRecDepth 100000
def vS (s : ByteArray) : Bool := validX s.data.toList
def strsAt (w : World) (A : Option Addr) (ss : List ByteArray) : Prop := ∀ k, k < ss.length → ∃ g, A = some ⟨g, 0, none⟩ ∧ g < w.heap.size ∧ w.cell? ⟨g, k, none⟩ = some (.string (ss.getD k ByteArray.empty)) ∧ (ss.getD k ByteArray.empty).size ≤ maxLen
theorem allS_succ (ss : List ByteArray) (p : ByteArray → Bool) (k : Nat) (hk : k < ss.length) : (ss.take (k + 1)).all p = ((ss.take k).all p && p (ss.getD k ByteArray.empty)) := by
  rw [List.take_succ_eq_append_getElem hk, List.all_append, List.getD_eq_getElem?_getD, List.getElem?_eq_getElem hk]
  simp
theorem allS_false (ss : List ByteArray) (p : ByteArray → Bool) (k : Nat) (hk : k < ss.length) (h : p (ss.getD k ByteArray.empty) = false) : ss.all p = false := by
  rw [List.all_eq_false]
  refine ⟨ss[k], List.getElem_mem hk, ?_⟩
  rw [List.getD_eq_getElem?_getD, List.getElem?_eq_getElem hk] at h
  simpa using h
def validRel (w : World) (ss : List ByteArray) (n : Nat) (i : Value) (wx : World) : Prop := ∃ k : Nat, k ≤ n ∧ i = .int .i64 k ∧ Below w.heap.size w wx ∧ (ss.take k).all vS = true
set_option maxHeartbeats 1000000 in
theorem valid_any (A : Option Addr) (n cap : Nat) (ss : List ByteArray) (w : World) (hn : ss.length = n) (hn2 : n ≤ 1099511627776) (hT : tabs w) (hc : strsAt w A ss) :
    Calls Tryd.prog 10 #[.slice A n cap] w fun e w' => e = .returned (.bool (ss.all vS)) ∧ Below w.heap.size w w' := by
  have HN := Lib.hid hn
  have HC := Lib.hid hc
  have HT := Lib.hid hT
  clear hn hc hT
  go_enter Tryd.func10, Tryd.ntmps10
  go_wp2
  go_loopw [7] (fun i wx => validRel w ss n i wx) (fun i _ => n - (intOf i).toNat)
  case atStart => exact ⟨0, Nat.zero_le _, rfl, Below.refl _ _, by simp⟩
  case round =>
    obtain ⟨k, hk, rfl, hb, hall⟩ := hrel
    have HA := Lib.hid hall
    clear hall
    by_cases hlt : k < n
    · obtain ⟨g, rfl, hg, hcell, hsz⟩ := HC.out k (by rw [HN.out]; exact hlt)
      have hcell2 := (hb.cell (p := ⟨g, k, none⟩) hg).trans hcell
      have hsucc := Lib.hid (allS_succ ss vS k (by rw [HN.out]; exact hlt))
      have hfalse := Lib.hid (allS_false ss vS k (by rw [HN.out]; exact hlt))
      obtain ⟨s, hs⟩ : ∃ s, ss.getD k ByteArray.empty = s := ⟨_, rfl⟩
      rw [hs] at hcell2 hsucc hfalse hsz
      have c1 := Tryd.utf8_ValidString s wr (by unfold maxLen at hsz; omega) (Utf8Tabs_below HT.out hb)
      have c2 := fun W => allValid s W hsz
      have hv : vS s = (validD s.data.toList && (runes s.data.toList).all xmlN) := rfl
      obtain ⟨V, hV⟩ : ∃ V, validD s.data.toList = V := ⟨_, rfl⟩
      obtain ⟨X, hX⟩ : ∃ X, (runes s.data.toList).all xmlN = X := ⟨_, rfl⟩
      rw [hV] at c1 hv
      rw [hX] at c2 hv
      clear hV hX hs hcell
      have C1 := Lib.hid c1
      have C2 := Lib.hid c2
      clear c1 c2
      cases V
      · have hf := Lib.hid (hfalse.out (by rw [hv]; rfl))
        clear hv hfalse hsucc C2
        go_wp2_with (go_at_call 27; refine C1.out.mono ?_; rintro e w1 ⟨rfl, hb1⟩)
        go_ret
        exact ⟨ret_bool hf.out.symm, hb.trans (hb1.mono hb.size)⟩
      · cases X
        · have hf := Lib.hid (hfalse.out (by rw [hv]; rfl))
          clear hv hfalse hsucc
          go_wp2_with (first
            | (go_at_call 27; refine C1.out.mono ?_; rintro e w1 ⟨rfl, hb1⟩)
            | (go_at_call 28; refine (C2.out _).mono ?_; rintro e w2 ⟨rfl, hb2⟩))
          go_ret
          exact ⟨ret_bool hf.out.symm, (hb.trans (hb1.mono hb.size)).trans (hb2.mono (Nat.le_trans hb.size hb1.size))⟩
        · have hf : Hid ((ss.take (k + 1)).all vS = true) := Lib.hid (by rw [hsucc.out, HA.out, hv]; rfl)
          clear hv hfalse hsucc
          go_wp2_with (first
            | (go_at_call 27; refine C1.out.mono ?_; rintro e w1 ⟨rfl, hb1⟩)
            | (go_at_call 28; refine (C2.out _).mono ?_; rintro e w2 ⟨rfl, hb2⟩))
          go_roundw
          case rel => exact ⟨k + 1, by omega, by go_num, (hb.trans (hb1.mono hb.size)).trans (hb2.mono (Nat.le_trans hb.size hb1.size)), hf.out⟩
          case measure => simp [intOf]; omega
    · obtain rfl : k = n := by omega
      have hf : Hid (ss.all vS = true) := Lib.hid (by have := HA.out; rwa [List.take_of_length_le (by rw [HN.out]; exact Nat.le_refl _)] at this)
      clear HA
      go_wp2
      go_ret
      exact ⟨ret_bool hf.out.symm, hb⟩
end Go.Proofs.YtklkodifbdpihaaDoor
