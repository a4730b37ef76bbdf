/- The reference strikes the noughts at the end of a list of digits. No condition beyond what the theorems state. -/
import Derived.Test.YtmggffhecopgiaaDoorRefOf
namespace Go.Proofs
open Go.Shelf Go.RowKit Go.Proofs.Wide Go.Proofs.Dig
/-- A slice that reads as a row of whole numbers, nil let in. -/
def Rd (w : World) (A : Option Addr) (l : List Int) : Prop := l ≠ [] → ∃ ad, A = some ad ∧ ∀ j d, l[j]? = some d → w.cell? (ad.add j) = some (.int .i64 d)
theorem Rd.call {w w' : World} {A : Option Addr} {l : List Int} (h : Rd w A l) (hb : Below w.heap.size w w') : Rd w' A l := fun hne => by
  obtain ⟨ad, e, hc⟩ := h hne
  exact ⟨ad, e, fun j d hd => (hb.cell (World.block_lt_of_cell? w _ (hc j d hd))).trans (hc j d hd)⟩
theorem Rd.nil {w : World} {A : Option Addr} : Rd w A [] := fun h => absurd rfl h
theorem Rd.take {w : World} {A : Option Addr} {l : List Int} (h : Rd w A l) (n : Nat) : Rd w A (l.take n) := fun hne => by
  obtain ⟨ad, e, hc⟩ := h (fun e => hne (by rw [e]; simp))
  refine ⟨ad, e, fun j d hd => hc j d ?_⟩
  rw [List.getElem?_take] at hd
  split at hd
  · exact hd
  · cases hd
theorem trim_take (l : List Int) (k : Nat) (hk : k < l.length) (h0 : l.getD k 0 = 0) : trimL (l.take (k + 1)) = trimL (l.take k) := by
  have e : l.take (k + 1) = l.take k ++ [0] := by
    rw [List.take_add_one, List.getElem?_eq_getElem hk]
    have : l[k] = 0 := by rw [List.getD_eq_getElem?_getD, List.getElem?_eq_getElem hk] at h0; exact h0
    rw [this]; rfl
  rw [e, trim_snoc_zero]
theorem trim_stop (l : List Int) (k : Nat) (hk : k < l.length) (h0 : l.getD k 0 ≠ 0) : trimL (l.take (k + 1)) = l.take (k + 1) := by
  have e : l.take (k + 1) = l.take k ++ [l[k]] := by rw [List.take_add_one, List.getElem?_eq_getElem hk]; rfl
  have : l[k] ≠ 0 := by rw [List.getD_eq_getElem?_getD, List.getElem?_eq_getElem hk] at h0; exact h0
  rw [e, trim_snoc _ _ this]
set_option maxHeartbeats 2000000 in
theorem trim_any (A : Option Addr) (l : List Int) (c : Nat) (w : World) (hr : Rd w A l) (hl : l.length ≤ c) (hc : c ≤ 9223372036854775807) :
    Calls Tryd.prog 34 #[.slice A l.length c] w fun e w' => e = .returned (.slice A (trimL l).length c) ∧ w = w' := by
  have hlI : (l.length : Int) ≤ (c : Int) := by omega
  obtain ⟨t, ht⟩ : ∃ t, (trimL l).length = t := ⟨_, rfl⟩
  rw [ht]
  have HT := Lib.hid ht
  have HR := Lib.hid hr
  clear ht hr
  go_enter Tryd.func34, Tryd.ntmps34
  go_wp2
  go_loop [3] (fun s3 => ∃ k : Nat, s3 = .int .i64 k ∧ k ≤ l.length ∧ Hid (trimL l = trimL (l.take k))) (fun s3 => (intOf s3).toNat)
  case atStart => exact ⟨l.length, rfl, Nat.le_refl _, Lib.hid (by rw [List.take_length])⟩
  case round =>
    obtain ⟨k, rfl, hk, hq⟩ := hrel
    cases k with
    | zero =>
      have e : t = 0 := by rw [← HT.out, hq.out]; rfl
      subst e
      clear hq
      go_wp2
      go_ret
      exact ⟨rfl, rfl⟩
    | succ k =>
      obtain ⟨ad, rfl, hcell⟩ := HR.out (by intro e; subst e; simp at hk)
      have hx := hcell k _ (List.getElem?_eq_getElem (by omega : k < l.length))
      have hgd : l.getD k 0 = l[k] := by rw [List.getD_eq_getElem?_getD, List.getElem?_eq_getElem (by omega)]; rfl
      have hkl : k < l.length := by omega
      have w1 : IntKind.i64.wrap (((k + 1 : Nat) : Int) - 1) = (k : Int) := by rw [IntKind.wrap_i64]; omega
      have hkI : (k : Int) < (l.length : Int) := by omega
      have hk0 : (0 : Int) ≤ (k : Int) := by omega
      have hkp : (0 : Int) < ((k + 1 : Nat) : Int) := by omega
      obtain ⟨d, hd⟩ : ∃ d, l[k] = d := ⟨_, rfl⟩
      rw [hd] at hx hgd
      have HGD := Lib.hid hgd
      clear hcell hgd hd
      by_cases h0 : d = 0
      · subst h0
        have hn : Hid (trimL l = trimL (l.take k)) := Lib.hid (by rw [hq.out, trim_take l k hkl HGD.out])
        clear hq
        go_wp2
        go_round
        case rel => exact ⟨k, rfl, by omega, hn⟩
        case measure => simp [intOf]
      · have e : t = k + 1 := by
          rw [← HT.out, hq.out, trim_stop l k hkl (by rw [HGD.out]; exact h0), List.length_take]; omega
        subst e
        have hkc : ((k + 1 : Nat) : Int) ≤ (c : Int) := by omega
        clear hq
        go_wp2
        go_ret
        exact ⟨rfl, rfl⟩
end Go.Proofs
