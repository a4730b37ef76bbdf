/- The examples of the document hold, in every world that holds the two tables. No condition beyond what the theorems state. -/
import Derived.Test.YtklkodifbdpihaaDoorSub
namespace Go.Proofs.YtklkodifbdpihaaDoor
open Go.RowKit Go.Lib
set_option maxRecDepth 100000
theorem v1 : [(⟨#[195, 169]⟩ : ByteArray)].all vS = true := by kernel_rfl
theorem v2 : [(⟨#[1]⟩ : ByteArray)].all vS = false := by kernel_rfl
theorem v3 : nameX [97, 45, 49] = true := by kernel_rfl
theorem v4 : nameX [49, 97] = false := by kernel_rfl
theorem v5 : normB [32, 97, 32, 32, 98, 32] = [97, 32, 98] := by kernel_rfl
theorem v6 : subS [97, 98, 99] (-1) 3 = [97, 98] := by kernel_rfl
theorem v7 : (runes [195, 169, 97]).length = 2 := by kernel_rfl
theorem v8 : validD [97, 98, 99] = true := by kernel_rfl
theorem tabs_to {w w' : World} (h : tabs w) (hb : Below w.heap.size w w') : tabs w' := Utf8Tabs_below h hb
theorem str_of {o : ByteArray} {l : List UInt8} (h : o.data.toList = l) : o = ⟨l.toArray⟩ := by cases o; simp at h; subst h; simp
set_option maxHeartbeats 2000000 in
theorem awake_any (w : World) (hT : tabs w) : Calls Tryd.prog 8 #[] w fun e w' => e = .returned (.bool true) ∧ Below w.heap.size w w' := by
  have cV : ∀ (W : World) (b : ByteArray) (r : Bool), tabs W → b.size ≤ maxLen → [b].all vS = r → Hid (Calls Tryd.prog 10 #[.slice (some ⟨W.heap.size, 0, none⟩) 1 1] (W.alloc (.cells #[.string b] 9)) fun e w' => e = .returned (.bool r) ∧ Below W.heap.size W w') := by
    intro W b r hTW hb hr
    have hba : Below W.heap.size W (W.alloc (.cells #[.string b] 9)) := (Below.refl _ _).alloc (Nat.le_refl _) _
    have := valid_any (some ⟨W.heap.size, 0, none⟩) 1 1 [b] _ rfl (by omega) (tabs_to hTW hba) (one_str W b hb)
    rw [hr] at this
    exact this.mono fun e w' ⟨h1, h2⟩ => ⟨h1, hba.trans (h2.mono hba.size)⟩
  have cN : ∀ (W : World) (b : ByteArray) (r : Bool), tabs W → b.size ≤ maxLen → nameX b.data.toList = r → Hid (Calls Tryd.prog 11 #[.string b] W fun e w' => e = .returned (.bool r) ∧ Below W.heap.size W w') := by
    intro W b r hTW hb hr
    have := name_any b W hb hTW
    rw [hr] at this
    exact this
  have CV := Lib.hid cV
  have CN := Lib.hid cN
  clear cV cN
  have HT := Lib.hid hT
  clear hT
  have m1 : (1 : Nat) ≤ maxLen := by unfold maxLen; omega
  have m2 : (2 : Nat) ≤ maxLen := by unfold maxLen; omega
  have m3 : (3 : Nat) ≤ maxLen := by unfold maxLen; omega
  go_enter Tryd.func8, Tryd.ntmps8
  go_wp2_with fail
  refine (CV.out w ⟨#[195, 169]⟩ true HT.out m2 v1).out.mono ?_
  rintro e w1 ⟨rfl, b1⟩
  have T1 := Lib.hid (tabs_to HT.out b1)
  go_wp2_with fail
  refine (CV.out w1 ⟨#[1]⟩ false T1.out m1 v2).out.mono ?_
  rintro e w2 ⟨rfl, b2⟩
  have B2 := b1.trans (b2.mono b1.size)
  have T2 := Lib.hid (tabs_to HT.out B2)
  go_wp2_with fail
  refine (CN.out w2 ⟨#[97, 45, 49]⟩ true T2.out m3 v3).out.mono ?_
  rintro e w3 ⟨rfl, b3⟩
  have B3 := B2.trans (b3.mono B2.size)
  have T3 := Lib.hid (tabs_to HT.out B3)
  go_wp2_with fail
  refine (CN.out w3 ⟨#[49, 97]⟩ false T3.out m2 v4).out.mono ?_
  rintro e w4 ⟨rfl, b4⟩
  have B4 := B3.trans (b4.mono B3.size)
  go_wp2_with fail
  refine (normal_any ⟨#[32, 97, 32, 32, 98, 32]⟩ w4 (by decide)).mono ?_
  rintro e w5 ⟨o5, rfl, h5, b5⟩
  obtain rfl := str_of (h5.trans v5)
  have B5 := B4.trans (b5.mono B4.size)
  clear h5
  go_wp2_with fail
  refine (sub_any ⟨#[97, 98, 99]⟩ (-1) 3 w5 (by decide) (by decide) (by decide) (by decide) (by decide) v8).mono ?_
  rintro e w6 ⟨o6, rfl, h6, b6⟩
  obtain rfl := str_of (h6.trans v6)
  have B6 := B5.trans (b6.mono B5.size)
  clear h6
  go_wp2_with fail
  refine (len_any ⟨#[195, 169, 97]⟩ w6 (by decide)).mono ?_
  rintro e w7 ⟨rfl, b7⟩
  rw [show (runes (⟨#[195, 169, 97]⟩ : ByteArray).data.toList).length = 2 from v7]
  have B7 := B6.trans (b7.mono B6.size)
  go_wp2
  go_ret
  exact ⟨rfl, B7⟩
end Go.Proofs.YtklkodifbdpihaaDoor
