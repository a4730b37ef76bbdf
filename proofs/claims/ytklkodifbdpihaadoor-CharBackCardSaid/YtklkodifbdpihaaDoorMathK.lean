/- Plain facts: numbers there and back. No condition beyond what the theorems state. -/
import Derived.Test.YtklkodifbdpihaaDoorMathL
import Derived.Test.YtklkodifbdpihaaDoorTextRef
import Derived.Test.YtklkodifbdpihaaDoorLawTexts
namespace Go.Proofs.YtklkodifbdpihaaDoor
open Go.RowKit Go.Lib
theorem enc_ne (r : Nat) (h : runeOk r) : enc r ≠ [] := by
  rw [encZ r h]; split
  · simp
  · split
    · simp
    · split <;> simp
theorem enc_one (r : Nat) (h : runeOk r) : validD (enc r) = true ∧ runes (enc r) = [r] := by
  have e := decode_enc r h []
  rw [List.append_nil] at e
  have hne := enc_ne r h
  have hnb : ¬ ((decodeL (enc r)).1 = 65533 ∧ (decodeL (enc r)).2 = 1) := by
    rw [e]
    rintro ⟨h1, h2⟩
    simp only at h1 h2
    subst h1
    rw [encZ _ h] at h2
    simp at h2
  constructor
  · rw [validD_step _ hne, if_neg hnb, e, List.drop_eq_nil_of_le (Nat.le_refl _)]; rfl
  · rw [runes_step _ hne, e, List.drop_eq_nil_of_le (Nat.le_refl _)]; rfl
theorem fl_runes : ∀ (rs : List Nat), (∀ r ∈ rs, runeOk r) → validD (fl rs) = true ∧ runes (fl rs) = rs
  | [], _ => ⟨rfl, rfl⟩
  | r :: t, h => by
    obtain ⟨e1, e2⟩ := enc_one r (h r (by simp))
    obtain ⟨i1, i2⟩ := fl_runes t fun x hx => h x (by simp [hx])
    have e : fl (r :: t) = enc r ++ fl t := by simp [fl]
    rw [e, validD_append _ e1, runes_append _ e1, i1, i2, e2]
    exact ⟨rfl, rfl⟩
theorem xmls {xs : List Int} (h : xs.all xmlB = true) : ∀ x ∈ xs, xmlB x = true := fun x hx => List.all_eq_true.1 h x hx
theorem fz_good {xs : List Int} (h : xs.all xmlB = true) : validX (fz xs) = true ∧ toZ (runes (fz xs)) = xs := by
  have hok : ∀ r ∈ xs.map Int.toNat, runeOk r := by
    intro r hr
    obtain ⟨x, hx, rfl⟩ := List.mem_map.1 hr
    exact (xml_ok (xmls h x hx)).2.2
  obtain ⟨h1, h2⟩ := fl_runes (xs.map Int.toNat) hok
  constructor
  · unfold validX fz
    rw [h1, h2, Bool.true_and, List.all_eq_true]
    intro r hr
    obtain ⟨x, hx, rfl⟩ := List.mem_map.1 hr
    have hb := xml_ok (xmls h x hx)
    unfold xmlN
    rw [show ((x.toNat : Nat) : Int) = x from by omega]
    exact xmls h x hx
  · unfold fz toZ
    rw [h2, List.map_map]
    conv => rhs; rw [← List.map_id xs]
    apply List.map_congr_left
    intro x hx
    have hb := xml_ok (xmls h x hx)
    simp only [Function.comp, id]
    omega
theorem back_good {l : List UInt8} (h : validX l = true) : (toZ (runes l)).all xmlB = true ∧ fz (toZ (runes l)) = l := by
  have hv : validD l = true := by unfold validX at h; exact (Bool.and_eq_true_iff.1 h).1
  have hx : (runes l).all xmlN = true := by unfold validX at h; exact (Bool.and_eq_true_iff.1 h).2
  constructor
  · unfold toZ
    rw [List.all_map]
    exact hx
  · unfold fz toZ
    rw [List.map_map]
    have : (Int.toNat ∘ fun (r : Nat) => (r : Int)) = id := by funext r; simp
    rw [this, List.map_id]
    exact flat_runes hv
theorem own_readZ {w : World} {B n : Nat} {v : Value} {xs : List Int} (h : w.ownsRow B 3 1 v n (xs.map (Value.int .i64))) : ∃ A cap, v = .slice A n cap ∧ intsBelow w A n xs := by
  have hl : xs.length = n := by have := h.1; simpa using this
  have hlt := h.lt
  rcases h.2 with ⟨rfl, hn⟩ | ⟨g, cap, cur, rfl, hB, hh, hnc, hcm, hcs, hct⟩
  · subst hn; exact ⟨none, 0, rfl, hl, fun k hk => absurd hk (by omega)⟩
  · refine ⟨some ⟨g, 0, none⟩, cap, rfl, hl, fun k hk => ⟨g, 0, rfl, (hlt g rfl).2, ?_⟩⟩
    have hc := h.cells (g := g) rfl k (.int .i64 (xs.getD k 0)) (by
      rw [List.getElem?_map, List.getD_eq_getElem?_getD, List.getElem?_eq_getElem (by omega)]; rfl)
    rw [Nat.zero_add]
    by_cases k0 : k = 0
    · subst k0; simpa [Addr.add] using hc
    · simpa [Addr.add, k0] using hc
theorem intsBelow_to {w W : World} {A : Option Addr} {n : Nat} {xs : List Int} (h : intsBelow w A n xs) (hb : Below w.heap.size w W) : intsBelow W A n xs := by
  refine ⟨h.1, fun k hk => ?_⟩
  obtain ⟨g, o, e, hg, hc⟩ := h.2 k hk
  exact ⟨g, o, e, Nat.lt_of_lt_of_le hg hb.size, (hb.cell (p := ⟨g, o + k, none⟩) hg).trans hc⟩
theorem intsBelow_at {w : World} {A : Option Addr} {n : Nat} {xs : List Int} (h : intsBelow w A n xs) : intsAt w A n xs := by
  refine ⟨h.1, fun k hk => ?_⟩
  obtain ⟨g, o, e, hg, hc⟩ := h.2 k hk
  exact ⟨g, o, e, hc⟩
theorem cells_toZ (xs : List Nat) : cellsI xs = (toZ xs).map (Value.int .i64) := by unfold cellsI toZ; rw [List.map_map]; rfl
end Go.Proofs.YtklkodifbdpihaaDoor
