/- The tokens of words with a remark ahead of each. No condition beyond what the theorems state. -/
import Derived.Test.YtolkfhiominjbaaGreatDoorCuts
namespace Go.Proofs.YtolkfhiominjbaaGreatDoor
open Go.RowKit Go.Lib
set_option maxRecDepth 100000
set_option maxHeartbeats 4000000
def sepR (r : List UInt8) : List UInt8 := 10 :: 40 :: 58 :: 32 :: (r ++ [32, 58, 41, 32])
def wideT (r : List UInt8) : List (List UInt8) → List UInt8
  | [] => []
  | w :: ws => sepR r ++ (w ++ wideT r ws)
theorem wide_cons (r w : List UInt8) (ws : List (List UInt8)) : wideT r (w :: ws) = sepR r ++ (w ++ wideT r ws) := rfl
theorem wide_snoc (r : List UInt8) : ∀ (ws : List (List UInt8)) (w : List UInt8), wideT r (ws ++ [w]) = wideT r ws ++ (sepR r ++ w)
  | [], w => by simp [wideT]
  | v :: ws, w => by
    rw [List.cons_append, wide_cons, wide_cons, wide_snoc r ws w]
    simp only [List.append_assoc]
/-- May a byte stand in the remark? -/
def remB (c : UInt8) : Prop := c ≠ 58 ∧ c ≠ 40 ∧ 32 ≤ c.toNat ∧ c.toNat ≤ 126
theorem rem_run : ∀ (u z : List UInt8) (k : Nat), (∀ a ∈ u, a ≠ 40 ∧ a ≠ 58) → remGo (u ++ 58 :: 41 :: z) 1 k = k + u.length + 2
  | [], z, k, _ => by
    rw [List.nil_append, remGo_cons, if_neg (by decide), if_pos (by decide), if_pos rfl]
    rfl
  | a :: u, z, k, h => by
    obtain ⟨h1, h2⟩ := h a (.head _)
    have ih := rem_run u z (k + 1) fun b hb => h b (.tail _ hb)
    rcases u with _ | ⟨b, u⟩
    · show remGo (a :: 58 :: 41 :: z) 1 k = _
      rw [remGo_cons, if_neg (fun e => h1 e.1), if_neg (fun e => h2 e.1)]
      rw [List.nil_append] at ih
      rw [ih]
      simp only [List.length_cons, List.length_nil]
    · show remGo (a :: b :: (u ++ 58 :: 41 :: z)) 1 k = _
      rw [remGo_cons, if_neg (fun e => h1 e.1), if_neg (fun e => h2 e.1)]
      rw [List.cons_append] at ih
      rw [ih]
      simp only [List.length_cons]
      omega
theorem rem_sep (r Z : List UInt8) (h : ∀ c ∈ r, remB c) : remGo (40 :: 58 :: 32 :: (r ++ [32, 58, 41, 32]) ++ Z) 0 0 = r.length + 6 := by
  have e : 40 :: 58 :: 32 :: (r ++ [32, 58, 41, 32]) ++ Z = 40 :: 58 :: ((32 :: (r ++ [32])) ++ 58 :: 41 :: (32 :: Z)) := by simp
  rw [e, remGo_cons, if_pos (by decide), rem_run]
  · simp only [List.length_cons, List.length_append, List.length_nil]
    omega
  · intro a ha
    rcases List.mem_cons.1 ha with rfl | ha
    · decide
    · rcases List.mem_append.1 ha with ha | ha
      · exact ⟨(h a ha).2.1, (h a ha).1⟩
      · rw [List.mem_singleton] at ha
        rw [ha]
        decide
theorem pass_sep {w : List UInt8} {k : Nat} {x : List UInt8} (hw : WordIs w k x) (r Z : List UInt8) (h : ∀ c ∈ r, remB c) (hZ : (∃ z, Z = 32 :: z) ∨ ∃ z, Z = 10 :: z) : passF (sepR r ++ (w ++ Z)) = some (w ++ Z) ∧ tokF (w ++ Z) = (k, x, w.length) := by
  obtain ⟨hne, ht, hp, htok, hk⟩ := hw
  obtain ⟨c, t, rfl, hc⟩ := first_no hne ht
  constructor
  · have e1 : trimW (sepR r ++ ((c :: t) ++ Z)) = 40 :: 58 :: 32 :: (r ++ [32, 58, 41, 32]) ++ ((c :: t) ++ Z) := by
      show trimW (10 :: (40 :: (58 :: 32 :: (r ++ [32, 58, 41, 32]) ++ ((c :: t) ++ Z)))) = _
      rw [trimW_cons, if_pos (by decide), trimW_cons, if_neg (by decide)]
      rfl
    have e2 : (40 :: 58 :: 32 :: (r ++ [32, 58, 41, 32]) ++ ((c :: t) ++ Z)).drop (r.length + 6) = 32 :: ((c :: t) ++ Z) := by
      have e3 : 40 :: 58 :: 32 :: (r ++ [32, 58, 41, 32]) ++ ((c :: t) ++ Z) = (40 :: 58 :: 32 :: (r ++ [32, 58, 41])) ++ (32 :: ((c :: t) ++ Z)) := by simp
      rw [e3]
      have e4 : (40 :: 58 :: 32 :: (r ++ [32, 58, 41])).length = r.length + 6 := by simp
      rw [← e4, List.drop_left]
    have e5 : trimW (32 :: ((c :: t) ++ Z)) = (c :: t) ++ Z := by
      rw [trimW_blank]
      exact trimW_no c _ hc
    have e6 : Lib.hasPrefix ((c :: t) ++ Z) [40, 58] = false := by
      rcases t with _ | ⟨d, t⟩
      · rcases hZ with ⟨z, rfl⟩ | ⟨z, rfl⟩ <;> simp [Lib.hasPrefix, List.isPrefixOf]
      · simpa [Lib.hasPrefix, List.isPrefixOf] using hp
    unfold passF
    rw [e1]
    obtain ⟨f, hf⟩ : ∃ f, (sepR r ++ ((c :: t) ++ Z)).length + 1 = f + 2 := ⟨(sepR r ++ ((c :: t) ++ Z)).length - 1, by simp [sepR]⟩
    rw [hf]
    unfold passGo
    rw [if_pos (by rfl), rem_sep r _ h, if_neg (by omega), e2, e5]
    unfold passGo
    rw [if_neg (by rw [e6]; decide)]
  · rcases hZ with ⟨z, rfl⟩ | ⟨z, rfl⟩
    · rw [tokF_app (c :: t) z hne (by rw [htok]), htok]
    · rw [tokF_appN (c :: t) z hne (by rw [htok]), htok]
theorem wide_head (r : List UInt8) (ws : List (List UInt8)) : (∃ z, wideT r ws ++ [32] = 32 :: z) ∨ ∃ z, wideT r ws ++ [32] = 10 :: z := by
  rcases ws with _ | ⟨w, ws⟩
  · exact .inl ⟨[], rfl⟩
  · exact .inr ⟨_, rfl⟩
theorem all_wide (S r : List UInt8) (hr : ∀ c ∈ r, remB c) : ∀ (ws : List (List UInt8)) (p : Nat) (acc : List Tk) (f : Nat), (∀ w ∈ ws, ∃ k x, WordIs w k x) → S.drop p = wideT r ws ++ [32] → ws.length < f → p ≤ S.length →
    ∃ M : List Tk, allGo f S (nextF S p) acc = some (acc ++ M) ∧ M.length = ws.length ∧ ∀ (i : Nat) (w : List UInt8), ws[i]? = some w → ∃ t : Tk, M[i]? = some t ∧ tokF w = (t.k, t.x, w.length)
  | [], p, acc, f, _, hS, hf, _ => by
    obtain ⟨f, rfl⟩ : ∃ f', f = f' + 1 := ⟨f - 1, by simp at hf; omega⟩
    rw [next_last S [32] p (by rw [hS]; rfl) (.inr rfl)]
    refine ⟨[], by unfold allGo; simp, rfl, fun i w h => by simp at h⟩
  | w :: ws, p, acc, f, hW, hS, hf, hp => by
    obtain ⟨f, rfl⟩ : ∃ f', f = f' + 1 := ⟨f - 1, by omega⟩
    obtain ⟨k, x, hw⟩ := hW w (.head _)
    obtain ⟨Z, hZ⟩ : ∃ Z, wideT r ws ++ [32] = Z := ⟨_, rfl⟩
    have hS' : S.drop p = sepR r ++ (w ++ Z) := by
      rw [hS, ← hZ, wide_cons]
      simp only [List.append_assoc]
    obtain ⟨h1, h2⟩ := pass_sep hw r Z hr (by rw [← hZ]; exact wide_head r ws)
    have hlen := congrArg List.length hS'
    rw [List.length_drop] at hlen
    simp only [List.length_append] at hlen
    have hwl : w.length ≠ 0 := by have := hw.1; cases w with | nil => exact absurd rfl this | cons => simp
    have hn : nextF S p = some ⟨k, x, S.length - (w ++ Z).length, S.length - (w ++ Z).length + w.length⟩ := by
      unfold nextF
      rw [hS', h1]
      simp only
      rw [if_neg (by intro e; have := congrArg List.length e; rw [List.length_append] at this; simp only [List.length_nil] at this; omega), h2]
      simp only
      rw [if_neg hwl]
    rw [hn]
    obtain ⟨a, ha⟩ : ∃ a, S.length - (w ++ Z).length = a := ⟨_, rfl⟩
    rw [ha]
    have hap : a = p + (sepR r).length := by rw [← ha]; simp only [List.length_append]; omega
    have hdb : S.drop (a + w.length) = wideT r ws ++ [32] := by
      rw [hap, ← List.drop_drop, ← List.drop_drop, hS', List.drop_left, List.drop_left, hZ]
    obtain ⟨M, h4, h5, h6⟩ := all_wide S r hr ws (a + w.length) (acc ++ [⟨k, x, a, a + w.length⟩]) f (fun w' h => hW w' (.tail _ h)) hdb (by simp only [List.length_cons] at hf; omega) (by omega)
    refine ⟨⟨k, x, a, a + w.length⟩ :: M, ?_, by simp [h5], fun i w' h => ?_⟩
    · unfold allGo
      simp only
      rw [if_neg hw.2.2.2.2, h4]
      simp
    · rcases i with _ | i
      · simp only [List.getElem?_cons_zero, Option.some.injEq] at h
        subst h
        exact ⟨_, rfl, hw.2.2.2.1⟩
      · simp only [List.getElem?_cons_succ] at h
        obtain ⟨t, h7, h8⟩ := h6 i w' h
        exact ⟨t, by simpa using h7, h8⟩
theorem rem_valid : ∀ (r : List UInt8), (∀ c ∈ r, remB c) → validX r = true
  | [], _ => validX_nil
  | c :: r, h => by
    have hc := h c (.head _)
    have h1 : validX [c] = true := validX_byte c (by have := hc.2.2.2; omega) (by
      unfold xmlN
      rw [xmlB_iff]
      unfold xmlP
      have h2 := hc.2.2.1
      have h3 := hc.2.2.2
      omega)
    exact vx_app h1 (rem_valid r fun b hb => h b (.tail _ hb))
theorem wide_valid (r : List UInt8) (hr : ∀ c ∈ r, remB c) : ∀ ws : List (List UInt8), (∀ w ∈ ws, validX w = true) → validX (wideT r ws) = true
  | [], _ => validX_nil
  | w :: ws, h => by
    have e : wideT r (w :: ws) = [10, 40, 58, 32] ++ (r ++ ([32, 58, 41, 32] ++ (w ++ wideT r ws))) := by
      rw [wide_cons]
      unfold sepR
      simp
    rw [e]
    exact vx_app (by kernel_rfl) (vx_app (rem_valid r hr) (vx_app (by kernel_rfl) (vx_app (h w (.head _)) (wide_valid r hr ws fun w' h' => h w' (.tail _ h')))))
theorem wide_ge (r : List UInt8) : ∀ ws : List (List UInt8), ws.length ≤ (wideT r ws).length
  | [] => Nat.le_refl _
  | w :: ws => by
    have := wide_ge r ws
    unfold wideT sepR
    simp only [List.length_append, List.length_cons]
    omega
/-- What All answers of words with a remark ahead of each. -/
theorem wide_all (r : List UInt8) (ws : List (List UInt8)) (hr : ∀ c ∈ r, remB c) (hl : (wideT r ws).length < 65536) (h : ∀ w ∈ ws, validX w = true ∧ ∃ k x, WordIs w k x) :
    ∃ M : List Tk, allR (wideT r ws ++ [32]) = some M ∧ allE (wideT r ws ++ [32]) = 0 ∧ M.length = ws.length ∧ ∀ (i : Nat) (w : List UInt8), ws[i]? = some w → ∃ t : Tk, M[i]? = some t ∧ tokF w = (t.k, t.x, w.length) := by
  have hv := wide_valid r hr ws fun w hw => (h w hw).1
  have hok : okT (wideT r ws ++ [32]) 0 = true := by
    unfold okT
    simp only [Bool.and_eq_true, decide_eq_true_eq, List.length_append, List.length_cons, List.length_nil]
    exact ⟨⟨⟨by omega, by omega⟩, by omega⟩, vx_app hv (by kernel_rfl)⟩
  obtain ⟨M, h1, h2, h3⟩ := all_wide (wideT r ws ++ [32]) r hr ws 0 [] ((wideT r ws ++ [32]).length + 2) (fun w hw => (h w hw).2) rfl (by have := wide_ge r ws; simp only [List.length_append]; omega) (Nat.zero_le _)
  have hF : allF (wideT r ws ++ [32]) = some M := h1
  refine ⟨M, ?_, ?_, h2, h3⟩
  · unfold allR; rw [if_pos hok]; exact hF
  · unfold allE; rw [if_pos hok, hF]; rfl
end Go.Proofs.YtolkfhiominjbaaGreatDoor
