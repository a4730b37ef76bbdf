/- Elements in one another, in plain words. No condition beyond what the theorems state. -/
import Derived.Test.YtpdaldpaceolnaaGreatDoorDocument
import Derived.Lib.IndexMore
namespace Go.Proofs.YtpdaldpaceolnaaGreatDoor
open Go.RowKit Go.Lib
set_option maxRecDepth 100000
set_option maxHeartbeats 4000000
def opA : List UInt8 := [60, 97, 62]
def clA : List UInt8 := [60, 47, 97, 62]
/-- x in so many elements a. -/
def deepS : Nat → List UInt8
  | 0 => [120]
  | k + 1 => opA ++ deepS k ++ clA
def deepP : Nat → PT
  | 0 => .mk 4 [] [120] [] []
  | k + 1 => .mk 2 [97] [] [] [deepP k]
theorem name_a (r : List UInt8) : nameL (97 :: 62 :: r) = some ([97], 62 :: r) := by
  have e : Lib.idxFunc noName true (ba' (97 :: 62 :: r)) = 1 := by
    unfold Lib.idxFunc
    have hs : (ba' (97 :: 62 :: r)).size = r.length + 2 := by rw [size_ba]; rfl
    rw [hs]
    have d0 : Utf8.decode (ba' (97 :: 62 :: r)) 0 = (97, 1) := by
      rw [← decodeL_drop (ba' (97 :: 62 :: r)) 0]
      exact decodeL_ascii 97 (62 :: r) (by decide)
    have d1 : Utf8.decode (ba' (97 :: 62 :: r)) 1 = (62, 1) := by
      rw [← decodeL_drop (ba' (97 :: 62 :: r)) 1]
      exact decodeL_ascii 62 r (by decide)
    rw [Lib.idxFuncFrom, if_pos (by omega), d0, if_neg (by decide +kernel), Lib.idxFuncFrom, if_pos (by omega), show 0 + (97, 1).2 = 1 from rfl, d1, if_pos (by decide +kernel)]
    rfl
  unfold nameL
  rw [e]
  rfl
theorem strip1 (c : UInt8) (r : List UInt8) : stripX [c] (c :: r) = some r := by
  unfold stripX; simp [Lib.hasPrefix]
theorem attrs_gt (r : List UInt8) (f : Nat) : attrsGo (f + 1) (62 :: r) [] = some ([], 62 :: r) := by
  have h : trimX (62 :: r) = 62 :: r := by rw [trim_cons]; rfl
  rw [attrsGo, h]
  simp
theorem text_lt (r : List UInt8) (c : UInt8) (hc : c ≠ 33) : textL (60 :: c :: r) = some ([], 60 :: c :: r) := by
  unfold textL
  have h1 : stripX cdataB (60 :: c :: r) = none := by
    unfold stripX cdataB; simp [Lib.hasPrefix]; intro h; exact absurd h.symm hc
  have h2 : stripX [38] (60 :: c :: r) = none := by unfold stripX; simp [Lib.hasPrefix]
  rw [textGo, h1, h2]
  simp [Lib.hasPrefix, textK]
theorem textGo_lt (r acc : List UInt8) (c : UInt8) (hc : c ≠ 33) (f : Nat) : textGo (f + 1) (60 :: c :: r) acc = some (acc, 60 :: c :: r) := by
  have h1 : stripX cdataB (60 :: c :: r) = none := by
    unfold stripX cdataB; simp [Lib.hasPrefix]; intro h; exact absurd h.symm hc
  have h2 : stripX [38] (60 :: c :: r) = none := by unfold stripX; simp [Lib.hasPrefix]
  rw [textGo, h1, h2]
  simp [Lib.hasPrefix]
theorem text_x (r : List UInt8) : textL (120 :: 60 :: 47 :: r) = some ([.mk 4 [] [120] [] []], 60 :: 47 :: r) := by
  unfold textL
  have h1 : stripX cdataB (120 :: 60 :: 47 :: r) = none := by unfold stripX cdataB; simp [Lib.hasPrefix]
  have h2 : stripX [38] (120 :: 60 :: 47 :: r) = none := by unfold stripX; simp [Lib.hasPrefix]
  have h3 : Lib.indexAny (120 :: 60 :: 47 :: r) [60, 38] = 1 := rfl
  have h4 : cutX (120 :: 60 :: 47 :: r) 1 = ([120], 60 :: 47 :: r) := rfl
  have h5 : Lib.contains [120] [93, 93, 62] = false := by kernel_rfl
  rw [textGo, h1, h2]
  simp only
  rw [if_neg (by simp [Lib.hasPrefix]), h3, h4]
  simp only
  rw [h5, if_neg (by decide), show (120 :: 60 :: 47 :: r).length = (r.length + 2) + 1 from rfl, textGo_lt _ _ _ (by decide)]
  rfl
theorem deep_elem : ∀ (k f o : Nat) (z : List UInt8), 2 * (k + 1) ≤ f → elemGo f o (deepS (k + 1) ++ z) = if o + k ≤ 62 then .ok (deepP (k + 1)) z else .nest := by
  intro k
  induction k with
  | zero =>
    intro f o z hf
    obtain ⟨f, rfl⟩ : ∃ g, f = g + 2 := ⟨f - 2, by omega⟩
    have e : deepS 1 ++ z = 60 :: 97 :: 62 :: 120 :: 60 :: 47 :: 97 :: 62 :: z := rfl
    rw [e, elemGo, strip1]
    simp only [name_a]
    by_cases ho : 62 < o
    · rw [if_pos ho, if_neg (by omega)]
    · rw [if_neg ho, if_pos (by omega)]
      simp only [attrs_gt]
      rw [show stripX [47, 62] (62 :: 120 :: 60 :: 47 :: 97 :: 62 :: z) = none by unfold stripX; simp [Lib.hasPrefix]]
      simp only [strip1, text_x]
      rw [kidsGo, if_pos (by simp [Lib.hasPrefix])]
      simp only
      rw [show stripX [60, 47, 97] (60 :: 47 :: 97 :: 62 :: z) = some (62 :: z) by unfold stripX; simp [Lib.hasPrefix]]
      simp only
      rw [show trimX (62 :: z) = 62 :: z by rw [trim_cons]; rfl, strip1]
      rfl
  | succ k ih =>
    intro f o z hf
    obtain ⟨f, rfl⟩ : ∃ g, f = g + 2 := ⟨f - 2, by omega⟩
    have e : deepS (k + 2) ++ z = 60 :: 97 :: 62 :: (deepS (k + 1) ++ (clA ++ z)) := by
      rw [deepS]
      simp [opA]
    obtain ⟨q, hq⟩ : ∃ q, deepS (k + 1) ++ (clA ++ z) = 60 :: 97 :: q := ⟨_, by rw [deepS]; simp [opA]; rfl⟩
    rw [e, elemGo, strip1]
    simp only [name_a]
    by_cases ho : 62 < o
    · rw [if_pos ho, if_neg (by omega)]
    · rw [if_neg ho]
      simp only [attrs_gt]
      rw [show stripX [47, 62] (62 :: (deepS (k + 1) ++ (clA ++ z))) = none by unfold stripX; simp [Lib.hasPrefix]]
      simp only [strip1]
      rw [hq, text_lt _ _ (by decide)]
      simp only
      rw [kidsGo, if_neg (by simp [Lib.hasPrefix]), show stripX [60, 33, 45, 45] (60 :: 97 :: q) = none by unfold stripX; simp [Lib.hasPrefix]]
      simp only
      rw [← hq, ih f (o + 1) (clA ++ z) (by omega)]
      by_cases h2 : o + 1 + k ≤ 62
      · rw [if_pos h2, if_pos (by omega)]
        simp only
        rw [show clA ++ z = 60 :: 47 :: 97 :: 62 :: z from rfl, text_lt _ _ (by decide)]
        simp only [List.nil_append, List.append_nil]
        obtain ⟨f, rfl⟩ : ∃ g, f = g + 1 := ⟨f - 1, by omega⟩
        rw [kidsGo, if_pos (by simp [Lib.hasPrefix])]
        simp only
        rw [show stripX [60, 47, 97] (60 :: 47 :: 97 :: 62 :: z) = some (62 :: z) by unfold stripX; simp [Lib.hasPrefix]]
        simp only
        rw [show trimX (62 :: z) = 62 :: z by rw [trim_cons]; rfl, strip1]
        rfl
      · rw [if_neg h2, if_neg (by omega)]
end Go.Proofs.YtpdaldpaceolnaaGreatDoor
namespace Go.Proofs.YtpdaldpaceolnaaGreatDoor
open Go.RowKit Go.Lib
set_option maxRecDepth 100000
set_option maxHeartbeats 4000000
def tailS : List UInt8 := [60, 33, 45, 45, 45, 45, 62]
def tailP (b : Bool) : List PT := if b then [.mk 5 [] [] [] []] else []
def tailL (b : Bool) : List UInt8 := if b then tailS else []
theorem deepS_cons (k : Nat) : ∃ q, deepS (k + 1) = 60 :: 97 :: q := ⟨_, by rw [deepS]; simp [opA]; rfl⟩
theorem out_a (q : List UInt8) : outL (60 :: 97 :: q) = some ([], 60 :: 97 :: q) := by
  unfold outL
  have h : trimX (60 :: 97 :: q) = 60 :: 97 :: q := by rw [trim_cons]; rfl
  rw [outGo, h, show stripX [60, 33, 45, 45] (60 :: 97 :: q) = none by unfold stripX; simp [Lib.hasPrefix]]
theorem out_tail (b : Bool) : outL (tailL b) = some (tailP b, []) := by
  cases b <;> kernel_rfl
theorem deepS_len : ∀ k, (deepS k).length = 7 * k + 1
  | 0 => rfl
  | k + 1 => by
    have := deepS_len k
    rw [deepS, List.length_append, List.length_append, this]
    show 3 + _ + 4 = _
    omega
theorem deep_doc (k : Nat) (b : Bool) : docF (deepS (k + 1) ++ tailL b) = if k ≤ 62 then .ok (.mk 1 [] [] [] ([deepP (k + 1)] ++ tailP b)) [] else .nest := by
  obtain ⟨q, hq⟩ := deepS_cons k
  have hlen : (deepS (k + 1) ++ tailL b).length = 7 * (k + 1) + 1 + (tailL b).length := by rw [List.length_append, deepS_len]
  unfold docF
  have e : deepS (k + 1) ++ tailL b = 60 :: 97 :: (q ++ tailL b) := by rw [hq]; rfl
  rw [show outL (deepS (k + 1) ++ tailL b) = some ([], deepS (k + 1) ++ tailL b) by rw [e]; exact out_a _]
  simp only
  rw [deep_elem k _ 0 (tailL b) (by rw [hlen]; omega)]
  by_cases h : k ≤ 62
  · rw [if_pos (by omega), if_pos h]
    simp only
    rw [out_tail]
    simp only [List.nil_append]
    rfl
  · rw [if_neg (by omega), if_neg h]
theorem lines_same : ∀ s : List UInt8, (∀ x ∈ s, x ≠ 13) → linesF s = s := by
  intro s h
  have one : ∀ o : List UInt8, 13 ∈ o → Lib.replaceAll s o [10] = s := by
    intro o ho
    unfold Lib.replaceAll Lib.replace
    split
    · rfl
    · have hi : Lib.index s o = -1 := by
        rcases Lib.index_spec s o with ⟨h2, _⟩ | ⟨i, h2, h3, h4, _⟩
        · exact h2
        · obtain ⟨u, hu⟩ := List.isPrefixOf_iff_prefix.1 h4
          have : (13 : UInt8) ∈ s.drop i := by rw [← hu]; exact List.mem_append_left _ ho
          exact absurd rfl (h 13 (List.mem_of_mem_drop this))
      cases hk : Lib.replaceNum s o (-1) with
      | zero => rw [Lib.replaceK]
      | succ n => rw [Lib.replaceK, hi]; rfl
  unfold linesF
  rw [one [13, 10] (.head _)]
  exact one [13] (.head _)
theorem deepS_no13 : ∀ k, ∀ x ∈ deepS k, x ≠ 13
  | 0, x, h => by rw [deepS] at h; rw [List.mem_singleton.1 h]; decide
  | k + 1, x, h => by
    rw [deepS, List.mem_append, List.mem_append] at h
    rcases h with (h | h) | h
    · revert x; decide
    · exact deepS_no13 k x h
    · revert x; decide
theorem deep_lines (k : Nat) (b : Bool) : linesF (deepS k ++ tailL b) = deepS k ++ tailL b := lines_same _ (by
  intro x hx
  rcases List.mem_append.1 hx with h | h
  · exact deepS_no13 k x h
  · cases b
    · cases h
    · exact (show ∀ x ∈ tailS, x ≠ 13 by decide) x h)
theorem deep_valid : ∀ k, validX (deepS k) = true
  | 0 => by kernel_rfl
  | k + 1 => by
    rw [deepS]
    exact vx_app (vx_app (by kernel_rfl) (deep_valid k)) (by kernel_rfl)
theorem deep_valid' (k : Nat) (b : Bool) : validX (deepS k ++ tailL b) = true := vx_app (deep_valid k) (by cases b <;> kernel_rfl)
end Go.Proofs.YtpdaldpaceolnaaGreatDoor
