/- Plain facts on parts of texts. No condition beyond what the theorems state. -/
import Derived.Test.YtklkodifbdpihaaDoorMathN
namespace Go.Proofs.YtklkodifbdpihaaDoor
open Go.RowKit Go.Lib
def fl (xs : List Nat) : List UInt8 := xs.flatMap enc
theorem fl_append (a b : List Nat) : fl (a ++ b) = fl a ++ fl b := by simp [fl]
def subL (xs : List Nat) (f : Nat) (C : Int) : List UInt8 := if C ≤ 0 then [] else fl ((xs.drop f).take C.toNat)
structure SubInv (l : List UInt8) (f : Nat) (C : Int) (k pos fi : Nat) : Prop where
  le : pos ≤ l.length
  front : l.take pos = fl ((runes l).take k)
  rest : runes (l.drop pos) = (runes l).drop k
  good : validD (l.drop pos) = true
  going : k = 0 ∨ (k : Int) - 1 - f < C
  first : f < k → fi ≤ pos ∧ l.take fi = fl ((runes l).take f)
  wait : k ≤ f → fi = l.length
theorem subInv0 (l : List UInt8) (f : Nat) (C : Int) (hv : validD l = true) : SubInv l f C 0 0 l.length :=
  ⟨Nat.zero_le _, by simp [fl], by simp, by simpa using hv, .inl rfl, fun h => absurd h (by omega), fun _ => rfl⟩
theorem cut_eq (l : List UInt8) (xs : List Nat) (k f pos fi : Nat) (hp : pos ≤ l.length) (hfi : fi ≤ pos) (h1 : l.take pos = fl (xs.take k)) (h2 : l.take fi = fl (xs.take f)) (hfk : f ≤ k) :
    (l.take pos).drop fi = fl ((xs.take k).drop f) := by
  have e : xs.take k = xs.take f ++ (xs.take k).drop f := by
    conv => lhs; rw [← List.take_append_drop f (xs.take k)]
    rw [List.take_take, Nat.min_eq_left hfk]
  have hl : (fl (xs.take f)).length = fi := by rw [← h2, List.length_take]; omega
  rw [h1]
  conv => lhs; rw [e, fl_append]
  rw [← hl, List.drop_left]
theorem subInv_step {l : List UInt8} {f : Nat} {C : Int} {k pos fi : Nat} (h : SubInv l f C k pos fi) (hp : pos < l.length) (hc : ¬ C ≤ (k : Int) - f) :
    SubInv l f C (k + 1) (pos + (decodeL (l.drop pos)).2) (if k = f then pos else fi) := by
  have hne := drop_ne l pos hp
  have hle := decodeL_le _ hne
  rw [List.length_drop] at hle
  obtain ⟨hv1, hv2⟩ := valid_cut _ hne h.good
  have hr := runes_drop l pos hp
  rw [h.rest] at hr
  have hk : k < (runes l).length := by
    rcases Nat.lt_or_ge k (runes l).length with h' | h'
    · exact h'
    · rw [List.drop_eq_nil_of_le h'] at hr; cases hr
  rw [List.drop_eq_getElem_cons hk] at hr
  injection hr with hr1 hr2
  refine ⟨by omega, ?_, hr2.symm, by rw [← List.drop_drop]; exact hv2, .inr (by omega), fun hf => ?_, fun hf => ?_⟩
  · rw [List.take_add, h.front, List.take_succ_eq_append_getElem hk, fl_append, hr1, ← encode_decode _ hne hv1]
    simp [fl, enc]
  · by_cases e : k = f
    · rw [if_pos e]; subst e; exact ⟨by omega, h.front⟩
    · rw [if_neg e]
      obtain ⟨a, b⟩ := h.first (by omega)
      exact ⟨by omega, b⟩
  · rw [if_neg (by omega)]; exact h.wait (by omega)
theorem subInv_stop {l : List UInt8} {f : Nat} {C : Int} {k pos fi : Nat} (h : SubInv l f C k pos fi) (hC : C ≤ 0 → f = 0) (hc : C ≤ (k : Int) - f) :
    (if k = f then pos else fi) ≤ pos ∧ (l.take pos).drop (if k = f then pos else fi) = subL (runes l) f C := by
  unfold subL
  by_cases c0 : C ≤ 0
  · have f0 := hC c0
    subst f0
    rw [if_pos c0]
    have k0 : k = 0 := by rcases h.going with h' | h'; exact h'; omega
    subst k0
    simp
  · rw [if_neg c0]
    have hkf : f < k := by omega
    rw [if_neg (by omega)]
    obtain ⟨a, b⟩ := h.first hkf
    refine ⟨a, ?_⟩
    rw [cut_eq l (runes l) k f pos fi h.le a h.front b (by omega)]
    have hk : (k : Int) = f + C := by rcases h.going with h' | h'; omega; omega
    rw [List.drop_take, show k - f = C.toNat from by omega]
theorem subInv_end {l : List UInt8} {f : Nat} {C : Int} {k fi : Nat} (h : SubInv l f C k l.length fi) (hC : C ≤ 0 → f = 0) :
    fi ≤ l.length ∧ (l.take l.length).drop fi = subL (runes l) f C := by
  have hr := h.rest
  rw [List.drop_eq_nil_of_le (Nat.le_refl _), runes_nil] at hr
  have hn : (runes l).length ≤ k := by
    have := congrArg List.length hr
    rw [List.length_nil, List.length_drop] at this
    omega
  unfold subL
  by_cases c0 : C ≤ 0
  · have f0 := hC c0
    subst f0
    rw [if_pos c0]
    have k0 : k = 0 := by rcases h.going with h' | h'; exact h'; omega
    subst k0
    have hw := h.wait (Nat.le_refl _)
    refine ⟨by omega, ?_⟩
    rw [hw, List.drop_eq_nil_of_le (by simp)]
  · rw [if_neg c0]
    by_cases hkf : f < k
    · obtain ⟨a, b⟩ := h.first hkf
      refine ⟨a, ?_⟩
      rw [cut_eq l (runes l) k f l.length fi (Nat.le_refl _) a h.front b (by omega), List.drop_take]
      have hg : (k : Int) - 1 - f < C := by rcases h.going with h' | h'; omega; exact h'
      rw [List.take_of_length_le (by rw [List.length_drop]; omega), List.take_of_length_le (by rw [List.length_drop]; omega)]
    · have hw := h.wait (by omega)
      refine ⟨by omega, ?_⟩
      rw [hw, List.drop_eq_nil_of_le (by simp), List.drop_eq_nil_of_le (by omega : (runes l).length ≤ f)]
      simp [fl]
end Go.Proofs.YtklkodifbdpihaaDoor
