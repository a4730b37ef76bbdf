/- The reference makes a text of numbers, or refuses. No condition beyond what the theorems state. -/
import Derived.Test.YtklkodifbdpihaaDoorSubRef
import Derived.Test.YtklkodifbdpihaaDoorInts
namespace Go.Proofs.YtklkodifbdpihaaDoor
open Go.RowKit Go.Lib
set_option maxRecDepth 100000
def fz (xs : List Int) : List UInt8 := fl (xs.map Int.toNat)
def intsBelow (w : World) (A : Option Addr) (n : Nat) (xs : List Int) : Prop := xs.length = n ∧ ∀ k, k < n → ∃ g o, A = some ⟨g, o, none⟩ ∧ g < w.heap.size ∧ w.cell? ⟨g, o + k, none⟩ = some (.int .i64 (xs.getD k 0))
theorem xml_ok {x : Int} (h : xmlB x = true) : 9 ≤ x ∧ x ≤ 1114111 ∧ runeOk x.toNat := by
  have := (xmlB_iff x).1 h
  unfold xmlP at this
  unfold runeOk
  omega
theorem fz_snoc (xs : List Int) (k : Nat) (hk : k < xs.length) : fz (xs.take (k + 1)) = fz (xs.take k) ++ enc (xs.getD k 0).toNat := by
  unfold fz
  rw [List.take_succ_eq_append_getElem hk, List.map_append, fl_append, List.getD_eq_getElem?_getD, List.getElem?_eq_getElem hk]
  simp [fl]
theorem allZ_succ (xs : List Int) (p : Int → Bool) (k : Nat) (hk : k < xs.length) : (xs.take (k + 1)).all p = ((xs.take k).all p && p (xs.getD k 0)) := by
  rw [List.take_succ_eq_append_getElem hk, List.all_append, List.getD_eq_getElem?_getD, List.getElem?_eq_getElem hk]
  simp
theorem allZ_false (xs : List Int) (p : Int → Bool) (k : Nat) (hk : k < xs.length) (h : p (xs.getD k 0) = false) : xs.all p = false := by
  rw [List.all_eq_false]
  refine ⟨xs[k], List.getElem_mem hk, ?_⟩
  rw [List.getD_eq_getElem?_getD, List.getElem?_eq_getElem hk] at h
  simpa using h
def txPost (B : Nat) (w : World) (xs : List Int) (v0 v1 : Value) (e : Ending) (w' : World) : Prop :=
  (xs.all xmlB = true ∧ ∃ o : ByteArray, e = .returned (.tuple #[.string o, v1]) ∧ o.data.toList = fz xs ∧ Below B w w') ∨
  (xs.all xmlB = false ∧ e = .returned (.tuple #[.string ⟨#[]⟩, v0]) ∧ Below B w w')
def txRel (w : World) (xs : List Int) (n : Nat) (so si : Value) (wx : World) : Prop :=
  ∃ (k : Nat) (o : ByteArray), k ≤ n ∧ si = .int .i64 k ∧ so = .string o ∧ o.size ≤ 4 * k ∧ Below w.heap.size w wx ∧ Hid (o.data.toList = fz (xs.take k)) ∧ Hid ((xs.take k).all xmlB = true)
set_option maxHeartbeats 4000000 in
theorem text_ref (A : Option Addr) (n c : Nat) (xs : List Int) (w : World) (hn2 : n ≤ 1099511627776) (hx : intsBelow w A n xs) : Calls Tryd.prog 25 #[.slice A n c] w (txPost w.heap.size w xs (.bool false) (.bool true)) := by
  obtain ⟨hn, hrd⟩ := hx
  have RD := Lib.hid hrd
  have HN := Lib.hid hn
  clear hrd hn
  go_enter Tryd.func25, Tryd.ntmps25
  go_wp2
  go_loopw [4, 5] (fun so si wx => txRel w xs n so si wx) (fun _ si _ => n - (intOf si).toNat)
  case atStart => exact ⟨0, _, Nat.zero_le _, rfl, rfl, Nat.le_refl _, Below.refl _ _, Lib.hid rfl, Lib.hid rfl⟩
  case round =>
    obtain ⟨k, o, hk, rfl, rfl, hos, hb, ho, hall⟩ := hrel
    by_cases hlt : k < n
    · obtain ⟨g, off, rfl, hg, hc⟩ := RD.out k hlt
      have hc2 := (hb.cell (p := ⟨g, off + k, none⟩) hg).trans hc
      have hkl : k < xs.length := by rw [HN.out]; exact hlt
      have hs1 := fz_snoc xs k hkl
      have hs2 := allZ_succ xs xmlB k hkl
      have hs3 := Lib.hid (allZ_false xs xmlB k hkl)
      obtain ⟨x, hx⟩ : ∃ x, xs.getD k 0 = x := ⟨_, rfl⟩
      rw [hx] at hc2 hs1 hs2 hs3
      have cX := xml_any x
      cases hb2 : xmlB x
      · rw [hb2] at cX
        have CX := Lib.hid cX
        have F := Lib.hid (hs3.out hb2)
        have HB := Lib.hid hb
        clear cX hb2 hs1 hs2 hs3 hx hb hc ho hall
        go_wp2_with (go_at_call 26; refine (CX.out _).mono ?_; rintro e w2 ⟨rfl, rfl⟩)
        go_ret2
        exact .inr ⟨F.out, rfl, HB.out⟩
      · rw [hb2] at cX
        obtain ⟨x1, x2, x3⟩ := xml_ok hb2
        obtain ⟨r, hr⟩ : ∃ r : Nat, x = (r : Int) := ⟨x.toNat, by omega⟩
        subst hr
        have cO := one_any r (by simpa using x3) wr
        have hel := Lib.hid (enc_length r (by simpa using x3))
        rw [show (r : Int).toNat = r from by omega] at hs1
        have HA : Hid ((xs.take (k + 1)).all xmlB = true) := Lib.hid (by rw [hs2, hall.out, hb2]; rfl)
        have HS : Hid (∀ o2 : ByteArray, o2.data.toList = enc r → (o ++ o2).data.toList = fz (xs.take (k + 1))) := Lib.hid fun o2 h2 => by rw [hs1, append_list, ho.out, h2]
        have CX := Lib.hid cX
        have CO := Lib.hid cO
        have HB := Lib.hid hb
        clear cX hb2 hs1 hs2 hs3 hx hb hc ho hall cO x1 x2 x3
        go_wp2_with (first
          | (go_at_call 26; refine (CX.out _).mono ?_; rintro e w2 ⟨rfl, rfl⟩)
          | (go_at_call 43; refine CO.out.mono ?_; rintro e w3 ⟨o2, rfl, h2, b2⟩; have hz2 := size_le_of h2 hel.out))
        go_roundw
        case rel => exact ⟨k + 1, _, by omega, by go_num, rfl, by rw [ByteArray.size_append]; omega, HB.out.trans (b2.mono HB.out.size), Lib.hid (HS.out o2 h2), HA⟩
        case measure => simp [intOf]; omega
    · obtain rfl : k = n := by omega
      have e : xs.take k = xs := List.take_of_length_le (by rw [HN.out]; exact Nat.le_refl _)
      rw [e] at ho hall
      go_wp2
      go_ret2
      exact .inl ⟨hall.out, o, rfl, ho.out, hb⟩
end Go.Proofs.YtklkodifbdpihaaDoor
