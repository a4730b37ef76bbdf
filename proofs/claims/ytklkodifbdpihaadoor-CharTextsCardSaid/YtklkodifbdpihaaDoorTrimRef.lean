/- The reference trims spaces. No condition beyond what the theorems state. -/
import Derived.Test.YtklkodifbdpihaaDoorValidRef
namespace Go.Proofs.YtklkodifbdpihaaDoor
open Go.RowKit Go.Lib
set_option maxRecDepth 100000
def spN (b : UInt8) : Bool := spaceB (b.toNat : Int)
def trimB (l : List UInt8) : List UInt8 := ((l.dropWhile spN).reverse.dropWhile spN).reverse
theorem dropWhile_all {p : UInt8 → Bool} : ∀ (a b : List UInt8), (∀ x ∈ a, p x = true) → (a ++ b).dropWhile p = b.dropWhile p
  | [], _, _ => rfl
  | x :: a, b, h => by
    rw [List.cons_append, List.dropWhile_cons, h x (by simp), if_pos rfl]
    exact dropWhile_all a b fun y hy => h y (by simp [hy])
theorem dropWhile_head {p : UInt8 → Bool} (x : UInt8) (a : List UInt8) (h : p x = false) : (x :: a).dropWhile p = x :: a := by rw [List.dropWhile_cons, h]; rfl
/-- the two ends of what is left -/
def endsOk (m : List UInt8) : Prop := m = [] ∨ (∃ x t, m = x :: t ∧ spN x = false) ∧ (∃ t y, m = t ++ [y] ∧ spN y = false)
theorem trimB_of (p m q : List UInt8) (hp : ∀ x ∈ p, spN x = true) (hq : ∀ x ∈ q, spN x = true) (hm : endsOk m) : trimB (p ++ m ++ q) = m := by
  unfold trimB
  rw [List.append_assoc, dropWhile_all p _ hp]
  rcases hm with rfl | ⟨⟨x, t, hx, hxs⟩, t', y, hy, hys⟩
  · rw [List.nil_append, show q.dropWhile spN = [] from by simpa using dropWhile_all q [] hq]; rfl
  · rw [show (m ++ q).dropWhile spN = m ++ q from by rw [hx, List.cons_append]; exact dropWhile_head _ _ hxs]
    rw [List.reverse_append, dropWhile_all _ _ (by simpa using hq)]
    rw [show m.reverse.dropWhile spN = m.reverse from by rw [hy, List.reverse_append]; exact dropWhile_head _ _ hys, List.reverse_reverse]
theorem mem_take_get {l : List UInt8} {k : Nat} {x : UInt8} (h : x ∈ l.take k) : ∃ j, j < k ∧ j < l.length ∧ l.getD j 0 = x := by
  obtain ⟨j, hj, e⟩ := List.mem_iff_getElem.1 h
  rw [List.length_take] at hj
  exact ⟨j, by omega, by omega, by rw [List.getD_eq_getElem?_getD, List.getElem?_eq_getElem (by omega)]; simpa using e⟩
theorem mem_drop_get {l : List UInt8} {k : Nat} {x : UInt8} (h : x ∈ l.drop k) : ∃ j, k ≤ j ∧ j < l.length ∧ l.getD j 0 = x := by
  obtain ⟨j, hj, e⟩ := List.mem_iff_getElem.1 h
  rw [List.length_drop] at hj
  exact ⟨k + j, by omega, by omega, by rw [List.getD_eq_getElem?_getD, List.getElem?_eq_getElem (by omega)]; simpa using e⟩
/-- by places -/
theorem trimB_at (l : List UInt8) (i j : Nat) (hij : i ≤ j) (hj : j ≤ l.length) (h1 : ∀ k, k < i → spN (l.getD k 0) = true) (h2 : ∀ k, j ≤ k → k < l.length → spN (l.getD k 0) = true)
    (h3 : i = j ∨ spN (l.getD i 0) = false) (h4 : i = j ∨ spN (l.getD (j - 1) 0) = false) : trimB l = (l.take j).drop i := by
  have e : l = (l.take j).take i ++ (l.take j).drop i ++ l.drop j := by rw [List.take_append_drop, List.take_append_drop]
  conv => lhs; rw [e]
  refine trimB_of _ _ _ ?_ ?_ ?_
  · intro x hx
    rw [List.take_take, Nat.min_eq_left hij] at hx
    obtain ⟨k, hk, _, rfl⟩ := mem_take_get hx
    exact h1 k hk
  · intro x hx
    obtain ⟨k, hk, hk2, rfl⟩ := mem_drop_get hx
    exact h2 k hk hk2
  · by_cases c : i = j
    · left; subst c; simp
    · right
      have hi : i < (l.take j).length := by rw [List.length_take]; omega
      have hl : ((l.take j).drop i).length = j - i := by rw [List.length_drop, List.length_take]; omega
      constructor
      · refine ⟨(l.take j)[i], (l.take j).drop (i + 1), List.drop_eq_getElem_cons hi, ?_⟩
        have := h3.resolve_left c
        rw [List.getD_eq_getElem?_getD, List.getElem?_eq_getElem (by omega)] at this
        simpa using this
      · have hne : (l.take j).drop i ≠ [] := by intro h; rw [h] at hl; simp at hl; omega
        refine ⟨((l.take j).drop i).dropLast, ((l.take j).drop i).getLast hne, (List.dropLast_concat_getLast hne).symm, ?_⟩
        have := h4.resolve_left c
        rw [List.getD_eq_getElem?_getD, List.getElem?_eq_getElem (by omega)] at this
        rw [List.getLast_eq_getElem, List.getElem_drop]
        simp only [List.getElem_take]
        simp only [hl]
        simpa [show i + (j - i - 1) = j - 1 from by omega] using this
end Go.Proofs.YtklkodifbdpihaaDoor
namespace Go.Proofs.YtklkodifbdpihaaDoor
open Go.RowKit Go.Lib
set_option maxRecDepth 100000
def spAt (s : ByteArray) (k : Nat) : Bool := spN (s.data.toList.getD k 0)
theorem spAt_get (s : ByteArray) (k : Nat) (h : k < s.size) : spaceB ((s[k]'h).toNat : Int) = spAt s k := by
  unfold spAt spN
  rw [bN_get s k h]; rfl
theorem space_at (s : ByteArray) (k : Nat) (h : k < s.size) (b : Bool) (hb : spAt s k = b) (w : World) : Calls Tryd.prog 36 #[.int .u8 ((s[k]'h).toNat : Int)] w fun e w' => e = .returned (.bool b) ∧ w = w' := by
  have := spaceRef_any ((s[k]'h).toNat : Int) w
  rwa [spAt_get s k h, hb] at this

def trimPost (s : ByteArray) (w : World) (e : Ending) (w' : World) : Prop := ∃ i j, i ≤ j ∧ j ≤ s.size ∧ e = .returned (.string (s.extract i j)) ∧ (s.extract i j).data.toList = trimB s.data.toList ∧ w = w'
set_option maxHeartbeats 1000000 in
theorem trim_ref (s : ByteArray) (w : World) (hs : s.size ≤ 1099511627776) : Calls Tryd.prog 14 #[.string s] w (trimPost s w) := by
  go_enter Tryd.func14, Tryd.ntmps14
  go_wp2
  go_loop [3] (fun i => ∃ k : Nat, k ≤ s.size ∧ i = .int .i64 k ∧ Hid (∀ j, j < k → spAt s j = true)) (fun i => s.size - (intOf i).toNat)
  case atStart => exact ⟨0, Nat.zero_le _, rfl, Lib.hid fun j hj => absurd hj (by omega)⟩
  case round =>
    obtain ⟨k, hk, rfl, hsp⟩ := hrel
    by_cases hgo : k < s.size ∧ spAt s k = true
    · obtain ⟨hlt, hb⟩ := hgo
      have hts : Hid (∀ j, j < k + 1 → spAt s j = true) := Lib.hid fun j hj => by
        by_cases e : j = k
        · subst e; exact hb
        · exact hsp.out j (by omega)
      have H := Lib.hid (space_at s k hlt true hb)
      clear hb
      go_wp2_with (go_at_call 36; refine (H.out _).mono ?_; rintro e w' ⟨rfl, rfl⟩)
      go_round
      case rel => exact ⟨k + 1, by omega, by go_num, hts⟩
      case measure => simp [intOf]; omega
    · have hex : Hid (k = s.size ∨ (k < s.size ∧ spAt s k = false)) := Lib.hid (by
        by_cases e : k < s.size
        · right; refine ⟨e, ?_⟩
          cases hb : spAt s k
          · rfl
          · exact absurd ⟨e, hb⟩ hgo
        · left; omega)
      clear hgo
      by_cases hlt : k < s.size
      all_goals
        first
          | (have H := Lib.hid (space_at s k hlt false (by have := hex.out; rcases this with h | h; omega; exact h.2))
             go_wp2_with (go_at_call 36; refine (H.out _).mono ?_; rintro e w' ⟨rfl, rfl⟩)
             clear H)
          | go_wp2_with fail
        go_loop [4] (fun i => ∃ m : Nat, k ≤ m ∧ m ≤ s.size ∧ i = .int .i64 m ∧ Hid (∀ j, m ≤ j → j < s.size → spAt s j = true)) (fun i => (intOf i).toNat)
        case atStart => exact ⟨s.size, hk, Nat.le_refl _, rfl, Lib.hid fun j hj h2 => absurd hj (by omega)⟩
        case round =>
          obtain ⟨m, hkm, hm, rfl, hsq⟩ := hrel
          by_cases hgo : k < m ∧ spAt s (m - 1) = true
          · obtain ⟨hlt2, hb⟩ := hgo
            have hts : Hid (∀ j, m - 1 ≤ j → j < s.size → spAt s j = true) := Lib.hid fun j hj h2 => by
              by_cases e : j = m - 1
              · subst e; exact hb
              · exact hsq.out j (by omega) h2
            obtain ⟨m', rfl⟩ : ∃ m', m = m' + 1 := ⟨m - 1, by omega⟩
            have H := Lib.hid (space_at s m' (by omega) true (by simpa using hb))
            clear hb
            have hm' : m' < s.size := by omega
            go_wp2_with (go_at_call 36; refine (H.out _).mono ?_; rintro e w' ⟨rfl, rfl⟩)
            all_goals
              go_round
              case rel => exact ⟨m', by omega, by omega, by go_num, hts⟩
              case measure => simp [intOf]
          · have hex2 : Hid (k = m ∨ (k < m ∧ spAt s (m - 1) = false)) := Lib.hid (by
              by_cases e : k < m
              · right; refine ⟨e, ?_⟩
                cases hb : spAt s (m - 1)
                · rfl
                · exact absurd ⟨e, hb⟩ hgo
              · left; omega)
            have fin : Hid ((s.extract k m).data.toList = trimB s.data.toList) := Lib.hid (by
              rw [extract_list]
              refine (trimB_at s.data.toList k m hkm (by simpa using hm) hsp.out (fun j a b => hsq.out j a (by simpa using b)) ?_ ?_).symm
              · rcases hex2.out with h | h
                · exact .inl h
                · rcases hex.out with h' | h'
                  · omega
                  · exact .inr h'.2
              · rcases hex2.out with h | h
                · exact .inl h
                · exact .inr h.2)
            clear hgo
            by_cases hlt2 : k < m
            · obtain ⟨m', rfl⟩ : ∃ m', m = m' + 1 := ⟨m - 1, by omega⟩
              have hm' : m' < s.size := by omega
              have H := Lib.hid (space_at s m' (by omega) false (by have := hex2.out; rcases this with h | h; omega; exact h.2))
              go_wp2_with (go_at_call 36; refine (H.out _).mono ?_; rintro e w' ⟨rfl, rfl⟩)
              all_goals
                go_ret
                exact ⟨k, m' + 1, by omega, hm, rfl, fin.out, rfl⟩
            · go_wp2_with fail
              go_ret
              exact ⟨k, m, hkm, hm, rfl, fin.out, rfl⟩
end Go.Proofs.YtklkodifbdpihaaDoor
