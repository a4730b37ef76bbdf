/- Texts: valid, trimmed, compared. No condition beyond what the theorems state. -/
import Derived.Test.YtemgabmafmehnaaGreatDoorChBytes
import Derived.Laws.RangeAny
import Derived.Lib.RuneCount
import Derived.Lib.OthersKept
import Derived.Shelf.GgClosure.Gives
import Derived.Test.YtemgabmafmehnaaGreatDoorShelf
namespace Go.Proofs.YtemgabmafmehnaaGreatDoor
open Go.RowKit Go.Lib
set_option maxRecDepth 100000
def spN (b : UInt8) : Bool := spaceB (b.toNat : Int)
def trimB (l : List UInt8) : List UInt8 := ((l.dropWhile spN).reverse.dropWhile spN).reverse
theorem dropWhile_all {p : UInt8 → Bool} : ∀ (a b : List UInt8), (∀ x ∈ a, p x = true) → (a ++ b).dropWhile p = b.dropWhile p
  | [], _, _ => rfl
  | x :: a, b, h => by
    rw [List.cons_append, List.dropWhile_cons, h x (by simp), if_pos rfl]
    exact dropWhile_all a b fun y hy => h y (by simp [hy])
theorem dropWhile_head {p : UInt8 → Bool} (x : UInt8) (a : List UInt8) (h : p x = false) : (x :: a).dropWhile p = x :: a := by rw [List.dropWhile_cons, h]; rfl
/-- the two ends of what is left -/
def endsOk (m : List UInt8) : Prop := m = [] ∨ (∃ x t, m = x :: t ∧ spN x = false) ∧ (∃ t y, m = t ++ [y] ∧ spN y = false)
theorem trimB_of (p m q : List UInt8) (hp : ∀ x ∈ p, spN x = true) (hq : ∀ x ∈ q, spN x = true) (hm : endsOk m) : trimB (p ++ m ++ q) = m := by
  unfold trimB
  rw [List.append_assoc, dropWhile_all p _ hp]
  rcases hm with rfl | ⟨⟨x, t, hx, hxs⟩, t', y, hy, hys⟩
  · rw [List.nil_append, show q.dropWhile spN = [] from by simpa using dropWhile_all q [] hq]; rfl
  · rw [show (m ++ q).dropWhile spN = m ++ q from by rw [hx, List.cons_append]; exact dropWhile_head _ _ hxs]
    rw [List.reverse_append, dropWhile_all _ _ (by simpa using hq)]
    rw [show m.reverse.dropWhile spN = m.reverse from by rw [hy, List.reverse_append]; exact dropWhile_head _ _ hys, List.reverse_reverse]
theorem mem_take_get {l : List UInt8} {k : Nat} {x : UInt8} (h : x ∈ l.take k) : ∃ j, j < k ∧ j < l.length ∧ l.getD j 0 = x := by
  obtain ⟨j, hj, e⟩ := List.mem_iff_getElem.1 h
  rw [List.length_take] at hj
  exact ⟨j, by omega, by omega, by rw [List.getD_eq_getElem?_getD, List.getElem?_eq_getElem (by omega)]; simpa using e⟩
theorem mem_drop_get {l : List UInt8} {k : Nat} {x : UInt8} (h : x ∈ l.drop k) : ∃ j, k ≤ j ∧ j < l.length ∧ l.getD j 0 = x := by
  obtain ⟨j, hj, e⟩ := List.mem_iff_getElem.1 h
  rw [List.length_drop] at hj
  exact ⟨k + j, by omega, by omega, by rw [List.getD_eq_getElem?_getD, List.getElem?_eq_getElem (by omega)]; simpa using e⟩
/-- by places -/
theorem trimB_at (l : List UInt8) (i j : Nat) (hij : i ≤ j) (hj : j ≤ l.length) (h1 : ∀ k, k < i → spN (l.getD k 0) = true) (h2 : ∀ k, j ≤ k → k < l.length → spN (l.getD k 0) = true)
    (h3 : i = j ∨ spN (l.getD i 0) = false) (h4 : i = j ∨ spN (l.getD (j - 1) 0) = false) : trimB l = (l.take j).drop i := by
  have e : l = (l.take j).take i ++ (l.take j).drop i ++ l.drop j := by rw [List.take_append_drop, List.take_append_drop]
  conv => lhs; rw [e]
  refine trimB_of _ _ _ ?_ ?_ ?_
  · intro x hx
    rw [List.take_take, Nat.min_eq_left hij] at hx
    obtain ⟨k, hk, _, rfl⟩ := mem_take_get hx
    exact h1 k hk
  · intro x hx
    obtain ⟨k, hk, hk2, rfl⟩ := mem_drop_get hx
    exact h2 k hk hk2
  · by_cases c : i = j
    · left; subst c; simp
    · right
      have hi : i < (l.take j).length := by rw [List.length_take]; omega
      have hl : ((l.take j).drop i).length = j - i := by rw [List.length_drop, List.length_take]; omega
      constructor
      · refine ⟨(l.take j)[i], (l.take j).drop (i + 1), List.drop_eq_getElem_cons hi, ?_⟩
        have := h3.resolve_left c
        rw [List.getD_eq_getElem?_getD, List.getElem?_eq_getElem (by omega)] at this
        simpa using this
      · have hne : (l.take j).drop i ≠ [] := by intro h; rw [h] at hl; simp at hl; omega
        refine ⟨((l.take j).drop i).dropLast, ((l.take j).drop i).getLast hne, (List.dropLast_concat_getLast hne).symm, ?_⟩
        have := h4.resolve_left c
        rw [List.getD_eq_getElem?_getD, List.getElem?_eq_getElem (by omega)] at this
        rw [List.getLast_eq_getElem, List.getElem_drop]
        simp only [List.getElem_take]
        simp only [hl]
        simpa [show i + (j - i - 1) = j - 1 from by omega] using this
end Go.Proofs.YtemgabmafmehnaaGreatDoor
namespace Go.Proofs.YtemgabmafmehnaaGreatDoor
open Go.RowKit Go.Lib
set_option maxRecDepth 100000
def spAt (s : ByteArray) (k : Nat) : Bool := spN (s.data.toList.getD k 0)
theorem spAt_get (s : ByteArray) (k : Nat) (h : k < s.size) : spaceB ((s[k]'h).toNat : Int) = spAt s k := by
  unfold spAt spN
  rw [bN_get s k h]; rfl
theorem space_at (s : ByteArray) (k : Nat) (h : k < s.size) (b : Bool) (hb : spAt s k = b) (w : World) : Calls Tryz.prog 79 #[.int .u8 ((s[k]'h).toNat : Int)] w fun e w' => e = .returned (.bool b) ∧ w = w' := by
  have := spaceRef_any ((s[k]'h).toNat : Int) w
  rwa [spAt_get s k h, hb] at this

def trimPost (s : ByteArray) (w : World) (e : Ending) (w' : World) : Prop := ∃ i j, i ≤ j ∧ j ≤ s.size ∧ e = .returned (.string (s.extract i j)) ∧ (s.extract i j).data.toList = trimB s.data.toList ∧ w = w'
set_option maxHeartbeats 1000000 in
theorem trim_ref (s : ByteArray) (w : World) (hs : s.size ≤ 1099511627776) : Calls Tryz.prog 50 #[.string s] w (trimPost s w) := by
  go_enter Tryz.func50, Tryz.ntmps50
  go_wp2
  go_loop [3] (fun i => ∃ k : Nat, k ≤ s.size ∧ i = .int .i64 k ∧ Hid (∀ j, j < k → spAt s j = true)) (fun i => s.size - (intOf i).toNat)
  case atStart => exact ⟨0, Nat.zero_le _, rfl, Lib.hid fun j hj => absurd hj (by omega)⟩
  case round =>
    obtain ⟨k, hk, rfl, hsp⟩ := hrel
    by_cases hgo : k < s.size ∧ spAt s k = true
    · obtain ⟨hlt, hb⟩ := hgo
      have hts : Hid (∀ j, j < k + 1 → spAt s j = true) := Lib.hid fun j hj => by
        by_cases e : j = k
        · subst e; exact hb
        · exact hsp.out j (by omega)
      have H := Lib.hid (space_at s k hlt true hb)
      clear hb
      go_wp2_with (go_at_call 79; refine (H.out _).mono ?_; rintro e w' ⟨rfl, rfl⟩)
      go_round
      case rel => exact ⟨k + 1, by omega, by go_num, hts⟩
      case measure => simp [intOf]; omega
    · have hex : Hid (k = s.size ∨ (k < s.size ∧ spAt s k = false)) := Lib.hid (by
        by_cases e : k < s.size
        · right; refine ⟨e, ?_⟩
          cases hb : spAt s k
          · rfl
          · exact absurd ⟨e, hb⟩ hgo
        · left; omega)
      clear hgo
      by_cases hlt : k < s.size
      all_goals
        first
          | (have H := Lib.hid (space_at s k hlt false (by have := hex.out; rcases this with h | h; omega; exact h.2))
             go_wp2_with (go_at_call 79; refine (H.out _).mono ?_; rintro e w' ⟨rfl, rfl⟩)
             clear H)
          | go_wp2_with fail
        go_loop [4] (fun i => ∃ m : Nat, k ≤ m ∧ m ≤ s.size ∧ i = .int .i64 m ∧ Hid (∀ j, m ≤ j → j < s.size → spAt s j = true)) (fun i => (intOf i).toNat)
        case atStart => exact ⟨s.size, hk, Nat.le_refl _, rfl, Lib.hid fun j hj h2 => absurd hj (by omega)⟩
        case round =>
          obtain ⟨m, hkm, hm, rfl, hsq⟩ := hrel
          by_cases hgo : k < m ∧ spAt s (m - 1) = true
          · obtain ⟨hlt2, hb⟩ := hgo
            have hts : Hid (∀ j, m - 1 ≤ j → j < s.size → spAt s j = true) := Lib.hid fun j hj h2 => by
              by_cases e : j = m - 1
              · subst e; exact hb
              · exact hsq.out j (by omega) h2
            obtain ⟨m', rfl⟩ : ∃ m', m = m' + 1 := ⟨m - 1, by omega⟩
            have H := Lib.hid (space_at s m' (by omega) true (by simpa using hb))
            clear hb
            have hm' : m' < s.size := by omega
            go_wp2_with (go_at_call 79; refine (H.out _).mono ?_; rintro e w' ⟨rfl, rfl⟩)
            all_goals
              go_round
              case rel => exact ⟨m', by omega, by omega, by go_num, hts⟩
              case measure => simp [intOf]
          · have hex2 : Hid (k = m ∨ (k < m ∧ spAt s (m - 1) = false)) := Lib.hid (by
              by_cases e : k < m
              · right; refine ⟨e, ?_⟩
                cases hb : spAt s (m - 1)
                · rfl
                · exact absurd ⟨e, hb⟩ hgo
              · left; omega)
            have fin : Hid ((s.extract k m).data.toList = trimB s.data.toList) := Lib.hid (by
              rw [extract_list]
              refine (trimB_at s.data.toList k m hkm (by simpa using hm) hsp.out (fun j a b => hsq.out j a (by simpa using b)) ?_ ?_).symm
              · rcases hex2.out with h | h
                · exact .inl h
                · rcases hex.out with h' | h'
                  · omega
                  · exact .inr h'.2
              · rcases hex2.out with h | h
                · exact .inl h
                · exact .inr h.2)
            clear hgo
            by_cases hlt2 : k < m
            · obtain ⟨m', rfl⟩ : ∃ m', m = m' + 1 := ⟨m - 1, by omega⟩
              have hm' : m' < s.size := by omega
              have H := Lib.hid (space_at s m' (by omega) false (by have := hex2.out; rcases this with h | h; omega; exact h.2))
              go_wp2_with (go_at_call 79; refine (H.out _).mono ?_; rintro e w' ⟨rfl, rfl⟩)
              all_goals
                go_ret
                exact ⟨k, m' + 1, by omega, hm, rfl, fin.out, rfl⟩
            · go_wp2_with fail
              go_ret
              exact ⟨k, m, hkm, hm, rfl, fin.out, rfl⟩
end Go.Proofs.YtemgabmafmehnaaGreatDoor
namespace Go.Proofs.YtemgabmafmehnaaGreatDoor
open Go.RowKit Go.Lib
set_option maxRecDepth 100000
def colGo : Bool → List UInt8 → List UInt8
  | _, [] => []
  | prev, b :: t => if spN b = true then (if prev = true then colGo true t else 32 :: colGo true t) else b :: colGo false t
def normB (l : List UInt8) : List UInt8 := colGo true (trimB l)
theorem colGo_at (prev : Bool) (l : List UInt8) (k : Nat) (hk : k < l.length) : colGo prev (l.drop k) =
    if spN (l.getD k 0) = true then (if prev = true then colGo true (l.drop (k + 1)) else 32 :: colGo true (l.drop (k + 1))) else l.getD k 0 :: colGo false (l.drop (k + 1)) := by
  rw [List.drop_eq_getElem_cons hk, colGo, List.getD_eq_getElem?_getD, List.getElem?_eq_getElem hk]
  rfl
theorem trimB_ends (l : List UInt8) : trimB l = [] ∨ spN ((trimB l).getD 0 0) = false := by
  unfold trimB
  obtain ⟨a, ha⟩ : ∃ a, l.dropWhile spN = a := ⟨_, rfl⟩
  have hh : a = [] ∨ spN (a.getD 0 0) = false := by
    rw [← ha]
    cases h : l.dropWhile spN with
    | nil => exact .inl rfl
    | cons x t =>
      right
      have := List.head_dropWhile_not spN (l := l) (by rw [h]; simp)
      simp only [h] at this
      simpa using this
  rw [ha]
  obtain ⟨b, hb⟩ : ∃ b, a.reverse.dropWhile spN = b := ⟨_, rfl⟩
  rw [hb]
  by_cases hn : b = []
  · left; simp [hn]
  · right
    have hne : a ≠ [] := by rintro rfl; simp at hb; exact hn hb
    -- b is a suffix of a.reverse, so b.reverse is a prefix of a
    have hsuf : b <:+ a.reverse := by rw [← hb]; exact List.dropWhile_suffix _
    have hpre : b.reverse <+: a := by have := List.reverse_prefix.2 hsuf; simpa using this
    obtain ⟨c, hc⟩ := hpre
    have hbl : 0 < b.reverse.length := by simp [List.length_pos_iff, hn]
    have h1 := hh.resolve_left hne
    rw [← hc] at h1
    rw [List.getD_eq_getElem?_getD, List.getElem?_append_left hbl] at h1
    rwa [List.getD_eq_getElem?_getD]
def normPost (s : ByteArray) (w : World) (e : Ending) (w' : World) : Prop := ∃ o : ByteArray, e = .returned (.string o) ∧ o.data.toList = normB s.data.toList ∧ w = w'
theorem extract_one (s : ByteArray) (k : Nat) (hk : k < s.size) : (s.extract k (k + 1)).data.toList = [s.data.toList.getD k 0] := by
  have h' : k < s.data.toList.length := by simpa using hk
  rw [extract_list, List.drop_take, List.drop_eq_getElem_cons h', show k + 1 - k = 1 from by omega, List.getD_eq_getElem?_getD, List.getElem?_eq_getElem h']
  rfl
theorem append_list (a b : ByteArray) : (a ++ b).data.toList = a.data.toList ++ b.data.toList := by simp [ByteArray.data_append]

def normRel (s t : ByteArray) (so si : Value) : Prop := ∃ (k : Nat) (o : ByteArray) (pb : Bool), k ≤ t.size ∧ si = .int .i64 k ∧ so = .string o ∧ o.size ≤ k ∧ (k = 0 ∨ pb = spAt t (k - 1)) ∧ Hid (normB s.data.toList = o.data.toList ++ colGo pb (t.data.toList.drop k))
end Go.Proofs.YtemgabmafmehnaaGreatDoor
namespace Go.Proofs.YtemgabmafmehnaaGreatDoor
open Go.RowKit Go.Lib
set_option maxRecDepth 100000
def okP (k x : Nat) : Prop := letterP (x : Int) ∨ (0 < k ∧ followP (x : Int))
instance (k x : Nat) : Decidable (okP k x) := by unfold okP; infer_instance
def nameP (xs : List Nat) : Prop := xs ≠ [] ∧ ∀ k, k < xs.length → okP k (xs.getD k 0)
def nameB (xs : List Nat) : Bool := !xs.isEmpty && (List.range xs.length).all fun k => decide (okP k (xs.getD k 0))
theorem nameB_true {xs : List Nat} (hne : xs ≠ []) (h : ∀ k, k < xs.length → okP k (xs.getD k 0)) : nameB xs = true := by
  unfold nameB
  simp [hne]
  intro k hk
  have := h k hk
  simpa [List.getD_eq_getElem?_getD] using this
theorem nameB_false {xs : List Nat} (k : Nat) (hk : k < xs.length) (h : ¬ okP k (xs.getD k 0)) : nameB xs = false := by
  unfold nameB
  rw [Bool.and_eq_false_iff]
  right
  rw [List.all_eq_false]
  exact ⟨k, List.mem_range.2 hk, by simpa using h⟩
def nameX (l : List UInt8) : Bool := validX l && nameB (runes l)

end Go.Proofs.YtemgabmafmehnaaGreatDoor
namespace Go.Proofs.YtemgabmafmehnaaGreatDoor
open Go.RowKit Go.Lib
set_option maxRecDepth 100000
set_option maxHeartbeats 1000000 in
theorem validOne_any (k a : Int) (r : Nat) (hr : r ≤ 1114111) (w : World) : Calls Tryz.prog 96 #[.int .i64 k, .int .i64 a, .int .i32 r] w fun e w' => e = .returned (.bool (xmlN r)) ∧ w = w' := by
  have H := Lib.hid (listed_any (r : Int))
  rw [show xmlB (r : Int) = xmlN r from rfl] at H
  go_enter Tryz.func96, Tryz.ntmps96
  go_wp2_with (go_at_call 97; refine (H.out _).mono ?_; rintro e w' ⟨rfl, rfl⟩)
  go_ret
  exact ⟨rfl, rfl⟩
def okB (k r : Nat) : Bool := decide (okP k r)
end Go.Proofs.YtemgabmafmehnaaGreatDoor
namespace Go.Proofs.YtemgabmafmehnaaGreatDoor
open Go.RowKit Go.Lib
def spR (r : Nat) : Bool := spaceB (r : Int)
theorem spR_high {r : Nat} (h : 128 ≤ r) : spR r = false := by
  cases hb : spR r
  · rfl
  · have := (spaceB_iff _).1 hb; unfold spaceP at this; omega
theorem spN_high {b : UInt8} (h : 128 ≤ b.toNat) : spN b = false := spR_high h
theorem decN_high (n b0 b1 b2 b3 : Nat) (h : 128 ≤ b0) : 128 ≤ (decodeN n b0 b1 b2 b3).1 := by
  rcases decodeN_shape n b0 b1 b2 b3 with ⟨c, e⟩ | ⟨c1, c2, c3, cv, e⟩ | ⟨c1, c2, c3, c4, cv, cs, e⟩ | ⟨c1, c2, c3, c4, c5, cv, cw, e⟩ | e
  · omega
  all_goals (rw [e]; simp only; omega)
theorem dec_low (l : List UInt8) (h : (l.getD 0 0).toNat < 128) : decodeL l = ((l.getD 0 0).toNat, 1) := by
  rw [decodeL_N]; exact decodeN_ascii _ _ _ _ _ h
theorem dec_high (l : List UInt8) (h : 128 ≤ (l.getD 0 0).toNat) : 128 ≤ (decodeL l).1 := by
  rw [decodeL_N]; exact decN_high _ _ _ _ _ h
theorem dec_space (l : List UInt8) : spR (decodeL l).1 = spN (l.getD 0 0) ∧ (spN (l.getD 0 0) = true → (decodeL l).2 = 1) := by
  by_cases h : (l.getD 0 0).toNat < 128
  · rw [dec_low l h]; exact ⟨rfl, fun _ => rfl⟩
  · have h' : 128 ≤ (l.getD 0 0).toNat := by omega
    rw [spR_high (dec_high l h'), spN_high h']
    exact ⟨rfl, fun h => by cases h⟩
theorem getD_drop (l : List UInt8) (k j : Nat) : (l.drop k).getD j 0 = l.getD (k + j) 0 := by simp [List.getD, List.getElem?_drop]
theorem dropWhile_drop (l : List UInt8) (k : Nat) (hk : k < l.length) : (l.drop k).dropWhile spN = if spN (l.getD k 0) = true then (l.drop (k + 1)).dropWhile spN else l.drop k := by
  rw [List.drop_eq_getElem_cons hk, List.dropWhile_cons, List.getD_eq_getElem?_getD, List.getElem?_eq_getElem hk]
  rfl
theorem idx_spec (s : ByteArray) : ∀ (f pos : Nat), s.size ≤ pos + f → pos ≤ s.size →
    (idxFuncFrom spR false s f pos = -1 ∧ (s.data.toList.drop pos).dropWhile spN = []) ∨ ∃ i : Nat, pos ≤ i ∧ i < s.size ∧ idxFuncFrom spR false s f pos = (i : Int) ∧ (s.data.toList.drop pos).dropWhile spN = s.data.toList.drop i
  | 0, pos, h, hp => by
    left
    have : pos = s.size := by omega
    subst this
    exact ⟨rfl, by rw [List.drop_eq_nil_of_le (by simp)]; rfl⟩
  | f + 1, pos, h, hp => by
    unfold idxFuncFrom
    by_cases hlt : pos < s.size
    · rw [if_pos hlt]
      have hl : pos < s.data.toList.length := by simpa using hlt
      have hd := dec_space (s.data.toList.drop pos)
      rw [decodeL_drop, getD_drop, Nat.add_zero] at hd
      rw [hd.1, dropWhile_drop _ _ hl]
      cases hb : spN (s.data.toList.getD pos 0)
      · right
        exact ⟨pos, Nat.le_refl _, hlt, by simp, by simp⟩
      · rw [hd.2 hb]
        simp only [Bool.true_eq_false, if_false, if_true]
        rcases idx_spec s f (pos + 1) (by omega) (by omega) with h' | ⟨i, h1, h2, h3, h4⟩
        · exact .inl h'
        · exact .inr ⟨i, by omega, h2, h3, h4⟩
    · rw [if_neg hlt]
      left
      exact ⟨rfl, by rw [List.drop_eq_nil_of_le (by simp; omega)]; rfl⟩
theorem trimLeft_list (s : ByteArray) : (trimLeftF spR s).data.toList = s.data.toList.dropWhile spN := by
  unfold trimLeftF idxFunc
  rcases idx_spec s s.size 0 (by omega) (by omega) with ⟨h1, h2⟩ | ⟨i, h0, h1, h2, h3⟩
  · rw [if_pos h1]
    rw [List.drop_zero] at h2
    rw [h2]
  · rw [h2, if_neg (by omega)]
    rw [List.drop_zero] at h3
    rw [h3, show (i : Int).toNat = i from by omega, extract_list, List.take_of_length_le (by simp)]
theorem take_ne (l : List UInt8) (j : Nat) (h0 : 0 < j) (hj : j ≤ l.length) : l.take j ≠ [] := by
  intro e
  have := congrArg List.length e
  rw [List.length_take, List.length_nil] at this
  omega
theorem last_spec (s : ByteArray) : ∀ (f i : Nat), i ≤ f → i ≤ s.size →
    (lastIdxFuncFrom spR false s f i = -1 ∧ ∀ k, k < i → spN (s.data.toList.getD k 0) = true) ∨
    ∃ j : Nat, 0 < j ∧ j ≤ i ∧ spN (s.data.toList.getD (j - 1) 0) = false ∧ (∀ k, j ≤ k → k < i → spN (s.data.toList.getD k 0) = true) ∧ lastIdxFuncFrom spR false s f i = ((j - (decodeLastL (s.data.toList.take j)).2 : Nat) : Int)
  | 0, i, h, hp => by
    left
    have : i = 0 := by omega
    subst this
    exact ⟨rfl, fun k hk => absurd hk (by omega)⟩
  | f + 1, i, h, hp => by
    unfold lastIdxFuncFrom
    by_cases h0 : 0 < i
    · rw [if_pos h0]
      have hne : s.data.toList.take i ≠ [] := take_ne _ _ h0 (by simpa using hp)
      have hlen : (s.data.toList.take i).length = i := by simp; omega
      have hlast : (s.data.toList.take i).getD ((s.data.toList.take i).length - 1) 0 = s.data.toList.getD (i - 1) 0 := by rw [hlen, getD_takeU _ _ _ (by omega)]
      cases hb : spN (s.data.toList.getD (i - 1) 0)
      · right
        refine ⟨i, h0, Nat.le_refl _, hb, fun k a b => absurd a (by omega), ?_⟩
        have hr : spR (decodeLastL (s.data.toList.take i)).1 = false := by
          unfold decodeLastL
          rw [if_neg hne, hlast]
          split
          · exact hb
          · have hd := dec_high
            by_cases c : lastStart (s.data.toList.take i) + (decodeL ((s.data.toList.take i).drop (lastStart (s.data.toList.take i)))).2 = (s.data.toList.take i).length
            · simp only [c, if_true]
              -- the rune of a good decoding that takes the last byte in
              by_cases hlow : (((s.data.toList.take i).drop (lastStart (s.data.toList.take i))).getD 0 0).toNat < 128
              · exfalso
                rw [dec_low _ hlow] at c
                rw [getD_drop] at hlow
                simp only at c
                rw [show lastStart (s.data.toList.take i) + 0 = (s.data.toList.take i).length - 1 from by omega, hlast] at hlow
                omega
              · exact spR_high (hd _ (by omega))
            · simp only [c, if_false]
              exact spR_high (by simp [Utf8.runeError])
        rw [hr]; simp
      · have hlo : (s.data.toList.getD (i - 1) 0).toNat < 128 := by
          rcases Nat.lt_or_ge (s.data.toList.getD (i - 1) 0).toNat 128 with h' | h'
          · exact h'
          · rw [spN_high h'] at hb; cases hb
        have e : decodeLastL (s.data.toList.take i) = ((s.data.toList.getD (i - 1) 0).toNat, 1) := by
          unfold decodeLastL
          rw [if_neg hne, hlast, if_pos hlo]
        rw [e]
        simp only
        rw [show spR (s.data.toList.getD (i - 1) 0).toNat = true from hb]
        simp only [Bool.true_eq_false, if_false]
        rcases last_spec s f (i - 1) (by omega) (by omega) with ⟨h1, h2⟩ | ⟨j, h1, h2, h3, h4, h5⟩
        · left
          refine ⟨h1, fun k hk => ?_⟩
          by_cases c : k = i - 1
          · subst c; exact hb
          · exact h2 k (by omega)
        · right
          refine ⟨j, h1, by omega, h3, fun k a b => ?_, h5⟩
          by_cases c : k = i - 1
          · subst c; exact hb
          · exact h4 k a (by omega)
    · rw [if_neg h0]
      left
      exact ⟨rfl, fun k hk => absurd hk (by omega)⟩
/-- a decoding that ends where the string is cut goes on as it is -/
theorem decN_more (n n' b0 b1 b2 b3 c1 c2 c3 : Nat) (h0 : 128 ≤ b0) (m : Nat) (hm : (decodeN n b0 b1 b2 b3).2 = m) (hn : n = m) (hnn : m ≤ n')
    (h1 : 1 < m → c1 = b1) (h2 : 2 < m → c2 = b2) (h3 : 3 < m → c3 = b3) (hs : m = 1 → n' = 1 ∨ c1 < 128) : (decodeN n' b0 c1 c2 c3).2 = m := by
  subst hn
  rcases decodeN_shape n b0 b1 b2 b3 with ⟨c, e⟩ | ⟨a1, a2, a3, cv, e⟩ | ⟨a1, a2, a3, a4, cv, cs, e⟩ | ⟨a1, a2, a3, a4, a5, cv, cw, e⟩ | e
  · omega
  · rw [e] at hm; simp only at hm; subst hm
    have e1 := h1 (by omega); subst e1
    unfold decodeN; rw [if_neg (by omega), if_pos (by omega), if_pos (by omega)]
  · rw [e] at hm; simp only at hm; subst hm
    have e1 := h1 (by omega); subst e1
    have e2 := h2 (by omega); subst e2
    unfold decodeN; rw [if_neg (by omega), if_neg (by omega), if_pos (by omega), if_pos (by omega)]
  · rw [e] at hm; simp only at hm; subst hm
    have e1 := h1 (by omega); subst e1
    have e2 := h2 (by omega); subst e2
    have e3 := h3 (by omega); subst e3
    unfold decodeN; rw [if_neg (by omega), if_neg (by omega), if_neg (by omega), if_pos (by omega), if_pos (by omega)]
  · rw [e] at hm; simp only at hm; subst hm
    have hs' := hs rfl
    unfold decodeN; rw [if_neg (by omega), if_neg (by omega), if_neg (by omega), if_neg (by omega)]
theorem lone (n b0 c1 c2 c3 : Nat) (h0 : 128 ≤ b0) (hs : n = 1 ∨ c1 < 128) : (decodeN n b0 c1 c2 c3).2 = 1 := by
  unfold decodeN; rw [if_neg (by omega), if_neg (by omega), if_neg (by omega), if_neg (by omega)]
theorem last_width (l : List UInt8) (j : Nat) (h0 : 0 < j) (hj : j ≤ l.length) (_hb : spN (l.getD (j - 1) 0) = false) (hn : j = l.length ∨ spN (l.getD j 0) = true) :
    (decodeLastL (l.take j)).2 ≤ j ∧ (j - (decodeLastL (l.take j)).2) + (decodeL (l.drop (j - (decodeLastL (l.take j)).2))).2 = j := by
  have hlow : j = l.length ∨ (l.getD j 0).toNat < 128 := by
    rcases hn with h | h
    · exact .inl h
    · rcases Nat.lt_or_ge (l.getD j 0).toNat 128 with h' | h'
      · exact .inr h'
      · rw [spN_high h'] at h; cases h
  have hne : l.take j ≠ [] := take_ne _ _ h0 hj
  have hlen : (l.take j).length = j := by simp; omega
  have hlast : (l.take j).getD ((l.take j).length - 1) 0 = l.getD (j - 1) 0 := by rw [hlen, getD_takeU _ _ _ (by omega)]
  unfold decodeLastL
  rw [if_neg hne, hlast]
  by_cases c : (l.getD (j - 1) 0).toNat < 128
  · rw [if_pos c]
    simp only
    have e := dec_low (l.drop (j - 1)) (by rw [getD_drop]; exact c)
    rw [e]
    simp only
    omega
  · rw [if_neg c]
    obtain ⟨k, hk⟩ : ∃ k, lastStart (l.take j) = k := ⟨_, rfl⟩
    rw [hk, hlen]
    have lone1 : (decodeL (l.drop (j - 1))).2 = 1 := by
      rw [decodeL_N, getD_drop, getD_drop, getD_drop, getD_drop, List.length_drop]
      refine lone _ _ _ _ _ (by simpa using (by omega : 128 ≤ (l.getD (j - 1) 0).toNat)) ?_
      rcases hlow with h | h
      · left; omega
      · right; rw [show j - 1 + 1 = j from by omega]; exact h
    by_cases d : k + (decodeL ((l.take j).drop k)).2 = j
    · simp only [d, if_true]
      obtain ⟨m, hm⟩ : ∃ m, (decodeL ((l.take j).drop k)).2 = m := ⟨_, rfl⟩
      have hm1 : 1 ≤ m := by rw [← hm]; exact decodeL_width _
      rw [hm] at d ⊢
      refine ⟨by omega, ?_⟩
      rw [show j - m = k from by omega]
      rw [decodeL_N, getD_drop, getD_drop, getD_drop, getD_drop, List.length_drop, hlen] at hm
      rw [Nat.add_zero, getD_takeU _ _ k (by omega)] at hm
      by_cases hb0 : (l.getD k 0).toNat < 128
      · rw [dec_low _ (by rw [getD_drop]; exact hb0)]
        simp only
        rw [decodeN_ascii _ _ _ _ _ hb0] at hm
        simp only at hm
        omega
      · rw [decodeL_N, getD_drop, getD_drop, getD_drop, getD_drop, List.length_drop, Nat.add_zero]
        have := decN_more (j - k) (l.length - k) (l.getD k 0).toNat ((l.take j).getD (k + 1) 0).toNat ((l.take j).getD (k + 2) 0).toNat ((l.take j).getD (k + 3) 0).toNat
          (l.getD (k + 1) 0).toNat (l.getD (k + 2) 0).toNat (l.getD (k + 3) 0).toNat (by omega) m hm (by omega) (by omega)
          (fun h => by rw [getD_takeU _ _ _ (by omega)]) (fun h => by rw [getD_takeU _ _ _ (by omega)]) (fun h => by rw [getD_takeU _ _ _ (by omega)])
          (fun h => by
            rcases hlow with h' | h'
            · left; omega
            · right; rw [show k + 1 = j from by omega]; exact h')
        rw [this]
        omega
    · simp only [d, if_false]
      rw [lone1]
      omega
theorem trimRight_list (s : ByteArray) : (trimRightF spR s).data.toList = (s.data.toList.reverse.dropWhile spN).reverse := by
  have hsz : s.data.toList.length = s.size := by simp
  unfold trimRightF rightEndF lastIdxFunc
  rcases last_spec s s.size s.size (Nat.le_refl _) (Nat.le_refl _) with ⟨h1, h2⟩ | ⟨j, h0, hj, hb, hq, he⟩
  · rw [h1, if_neg (by omega)]
    have : s.data.toList.reverse.dropWhile spN = [] := by
      have := dropWhile_all s.data.toList.reverse [] (p := spN) (by
        intro x hx
        obtain ⟨k, _, hk, rfl⟩ := mem_drop_get (l := s.data.toList) (k := 0) (by simpa using hx)
        exact h2 k (by omega))
      simpa using this
    rw [this]
    simp
  · have hw := last_width s.data.toList j h0 (by omega) hb (by
      by_cases c : j = s.data.toList.length
      · exact .inl c
      · exact .inr (hq j (Nat.le_refl _) (by omega)))
    rw [he, if_pos (by omega)]
    obtain ⟨k, hk⟩ : ∃ k, j - (decodeLastL (s.data.toList.take j)).2 = k := ⟨_, rfl⟩
    rw [hk] at hw ⊢
    have hgo : (decodeGoB (s.extract (k : Int).toNat s.size)).2 = (decodeL (s.data.toList.drop k)).2 := by
      have hk1 : 1 ≤ (decodeL (s.data.toList.drop k)).2 := decodeL_width _
      unfold decodeGoB
      rw [show (k : Int).toNat = k from by omega, if_neg (by simp; omega), ← decodeL_drop, List.drop_zero, extract_list, List.take_of_length_le (by simp)]
    rw [hgo, show (k : Int).toNat = k from by omega, hw.2, extract_list, List.drop_zero]
    conv => rhs; rw [← List.take_append_drop j s.data.toList]
    rw [List.reverse_append, dropWhile_all _ _ (by
      intro x hx
      obtain ⟨m, hm, hm2, rfl⟩ := mem_drop_get (l := s.data.toList) (k := j) (by simpa using hx)
      exact hq m hm (by omega))]
    have e : s.data.toList.take j = s.data.toList.take (j - 1) ++ [s.data.toList.getD (j - 1) 0] := by
      conv => lhs; rw [show j = (j - 1) + 1 from by omega]
      rw [List.take_succ_eq_append_getElem (by omega), List.getD_eq_getElem?_getD, List.getElem?_eq_getElem (by omega)]
      rfl
    rw [e, List.reverse_append, List.reverse_singleton, List.singleton_append, dropWhile_head _ _ hb]
    simp
theorem trimF_list (s : ByteArray) : (trimF spR s).data.toList = trimB s.data.toList := by
  unfold trimF trimB
  rw [trimRight_list, trimLeft_list]
end Go.Proofs.YtemgabmafmehnaaGreatDoor
namespace Go.Proofs.YtemgabmafmehnaaGreatDoor
open Go.RowKit Go.Lib
set_option maxRecDepth 100000
def allStep (s : ByteArray) (it : Nat) (I : Nat → Nat → World → Prop) (J : World → Prop) (k pos : Nat) (e : Ending) (w' : World) : Prop :=
  (e = .returned (.bool true) ∧ w'.heap[it]? = some (.stringIter s (pos + (Utf8.decode s pos).2)) ∧ I (k + 1) (pos + (Utf8.decode s pos).2) w') ∨ (e = .returned (.bool false) ∧ J w')
def allPost (s : ByteArray) (I : Nat → Nat → World → Prop) (J : World → Prop) (e : Ending) (w' : World) : Prop :=
  (e = .returned (.bool true) ∧ ∃ k, k ≤ s.size ∧ I k s.size w') ∨ (e = .returned (.bool false) ∧ J w')
def bothOf (b : Bool) (p q : Prop) : Prop := if b then p else q
theorem bothOf_t {p q : Prop} (h : bothOf true p q) : p := h
theorem bothOf_f {p q : Prop} (h : bothOf false p q) : q := h
def allRel (s : ByteArray) (it : Nat) (I : Nat → Nat → World → Prop) (gf : Nat) (v : Value) (wx : World) : Prop :=
  ∃ k pos : Nat, v = .int .i64 k ∧ I k pos wx ∧ wx.heap[it]? = some (.stringIter s pos) ∧ pos ≤ s.size ∧ s.size ≤ pos + gf ∧ k ≤ pos
set_option maxHeartbeats 1000000 in
theorem all_inv (g : Nat) (lb : Array Value) (eg : ∀ args w, (callFunc g args).run Tryz.prog w = .ok (.enter g args) w) (s : ByteArray) (w : World) (hs : s.size ≤ maxLen) (I : Nat → Nat → World → Prop) (J : World → Prop)
    (h0 : I 0 0 (w.iter s 0))
    (hstep : ∀ k pos W, k ≤ pos → pos < s.size → I k pos W → W.heap[w.heap.size]? = some (.stringIter s pos) →
      Calls Tryz.prog g (#[.int .i64 k, .int .i64 pos, .int .i32 (Utf8.decode s pos).1] ++ lb) (W.iterAt w.heap.size s (pos + (Utf8.decode s pos).2)) (allStep s w.heap.size I J k pos)) :
    Calls Tryz.prog 95 #[.string s, .func (.func g) #[] lb] w (allPost s I J) := by
  unfold maxLen at hs
  have HS := Lib.hid hstep
  have H0 := Lib.hid h0
  clear hstep h0
  go_enter Tryz.func95, Tryz.ntmps95
  go_wp2
  go_loopg [5] s.size (fun gf s5 wx => allRel s w.heap.size I gf s5 wx)
  case atStart => exact ⟨0, 0, rfl, H0.out, World.iter_heap w s 0, Nat.zero_le _, by omega, Nat.le_refl _⟩
  case round =>
    obtain ⟨k, pos, rfl, hI, hit, hps, hfu, hkp⟩ := hrel
    by_cases hlt : pos < s.size
    · obtain ⟨g', rfl⟩ : ∃ g', gk = g' + 1 := ⟨gk - 1, by omega⟩
      have hnx : ∀ ty, (Instr.next (.pointer (some ⟨w.heap.size, 0, none⟩)) true ty).run Tryz.prog wr = _ := fun ty => Lib.run_next_any_at wr w.heap.size s pos ty hit hlt
      have hwd := Lib.width_pos s pos
      have hwn : pos + (Utf8.decode s pos).2 ≤ s.size := by
        have := Lib.decodeN_le_n' (s.size - pos) (s.get! pos).toNat (s.get! (pos + 1)).toNat (s.get! (pos + 2)).toNat (s.get! (pos + 3)).toNat (by omega)
        rw [← Lib.decode_at] at this
        omega
      have cS := HS.out k pos wr hkp hlt hI hit
      unfold allStep at cS
      obtain ⟨R, hR⟩ : ∃ R, (Utf8.decode s pos).1 = R := ⟨_, rfl⟩
      obtain ⟨K, hK⟩ : ∃ K, (Utf8.decode s pos).2 = K := ⟨_, rfl⟩
      rw [hR, hK] at hnx cS
      rw [hK] at hwd hwn
      obtain ⟨W, hWd⟩ : ∃ W, wr.iterAt w.heap.size s (pos + K) = W := ⟨_, rfl⟩
      rw [hWd] at hnx cS
      have CS := Lib.hid cS
      have HI := Lib.hid hit
      clear hI hit HS cS hR hK hWd HI H0
      go_wp2_with (go_at_fn g; go_must (refine CS.out.mono ?_))
      rintro e w' h
      have h' : ∃ b, e = .returned (.bool b) ∧ bothOf b (w'.heap[w.heap.size]? = some (.stringIter s (pos + K)) ∧ I (k + 1) (pos + K) w') (J w') := by
        rcases h with ⟨rfl, a, b⟩ | ⟨rfl, a⟩
        · exact ⟨true, rfl, ⟨a, b⟩⟩
        · exact ⟨false, rfl, a⟩
      clear h CS
      obtain ⟨b, rfl, h1⟩ := h'
      cases b
      · have h2 := Lib.hid (bothOf_f h1)
        clear h1
        go_wp2
        go_ret
        exact .inr ⟨rfl, h2.out⟩
      · have h2 := Lib.hid (bothOf_t h1)
        clear h1
        go_wp2
        go_roundg g'
        case measure => omega
        case rel => exact ⟨k + 1, pos + K, by go_num, h2.out.2, h2.out.1, hwn, by omega, by omega⟩
    · obtain rfl : pos = s.size := by omega
      have hnx : ∀ ty, (Instr.next (.pointer (some ⟨w.heap.size, 0, none⟩)) true ty).run Tryz.prog wr = _ := fun ty => Lib.run_next_end_at wr w.heap.size s s.size ty hit hlt
      have HI := Lib.hid hI
      clear hI hit HS H0
      go_wp2
      go_ret
      exact .inl ⟨rfl, k, hkp, HI.out⟩
end Go.Proofs.YtemgabmafmehnaaGreatDoor
namespace Go.Proofs.YtemgabmafmehnaaGreatDoor
open Go.RowKit Go.Lib
set_option maxRecDepth 100000
def allQ (q : Nat → Nat → Bool) : Nat → List Nat → Bool
  | _, [] => true
  | k, r :: t => q k r && allQ q (k + 1) t
theorem drop_ne (l : List UInt8) (pos : Nat) (h : pos < l.length) : l.drop pos ≠ [] := by
  intro e
  have := congrArg List.length e
  simp at this
  omega
theorem runes_drop (l : List UInt8) (pos : Nat) (h : pos < l.length) : runes (l.drop pos) = (decodeL (l.drop pos)).1 :: runes (l.drop (pos + (decodeL (l.drop pos)).2)) := by
  rw [runes_step _ (drop_ne l pos h), List.drop_drop]
theorem below_iter (w : World) (s : ByteArray) : Below w.heap.size w (w.iter s 0) := (Below.refl _ _).alloc (Nat.le_refl _) _
theorem all_pure (g : Nat) (eg : ∀ args w, (callFunc g args).run Tryz.prog w = .ok (.enter g args) w) (q : Nat → Nat → Bool)
    (hq : ∀ (k a r : Nat), r ≤ 1114111 → ∀ W : World, Calls Tryz.prog g #[.int .i64 k, .int .i64 a, .int .i32 r] W fun e w' => e = .returned (.bool (q k r)) ∧ W = w')
    (s : ByteArray) (w : World) (hs : s.size ≤ maxLen) :
    Calls Tryz.prog 95 #[.string s, .func (.func g) #[] #[]] w fun e w' => e = .returned (.bool (allQ q 0 (runes s.data.toList))) ∧ Below w.heap.size w w' := by
  have hz : s.data.toList.length = s.size := by simp
  refine (all_inv g #[] eg s w hs (fun k pos W => Below w.heap.size w W ∧ allQ q 0 (runes s.data.toList) = allQ q k (runes (s.data.toList.drop pos))) (fun W => Below w.heap.size w W ∧ allQ q 0 (runes s.data.toList) = false) ?_ ?_).mono ?_
  · exact ⟨below_iter w s, rfl⟩
  · rintro k pos W hk hp ⟨hb, he⟩ hit
    rw [runes_drop _ _ (by rw [hz]; exact hp), decodeL_drop] at he
    refine (hq k pos (Utf8.decode s pos).1 (rune_le s pos) _).mono ?_
    rintro e w' ⟨rfl, rfl⟩
    have hb' := Lib.below_iterAt hb (Nat.le_refl _) s (pos + (Utf8.decode s pos).2)
    cases hv : q k (Utf8.decode s pos).1
    · exact .inr ⟨rfl, hb', by rw [he, allQ, hv]; rfl⟩
    · exact .inl ⟨rfl, Lib.iterAt_heap W _ s pos _ hit, hb', by rw [he, allQ, hv]; rfl⟩
  · rintro e w' (⟨rfl, k, hk, hb, he⟩ | ⟨rfl, hb, he⟩)
    · rw [List.drop_eq_nil_of_le (by rw [hz]; exact Nat.le_refl _)] at he
      exact ⟨by rw [he]; rfl, hb⟩
    · exact ⟨by rw [he], hb⟩
theorem allQ_const (p : Nat → Bool) : ∀ (k : Nat) (l : List Nat), allQ (fun _ r => p r) k l = l.all p
  | _, [] => rfl
  | k, r :: t => by rw [allQ, List.all_cons, allQ_const p (k + 1) t]
theorem allQ_name : ∀ (t : List Nat) (k : Nat), allQ okB k t = (List.range t.length).all fun j => decide (okP (k + j) (t.getD j 0))
  | [], _ => rfl
  | r :: t, k => by
    rw [allQ, allQ_name t (k + 1), List.length_cons, List.range_succ_eq_map, List.all_cons, List.all_map]
    congr 1
    apply congrArg (fun f => (List.range t.length).all f)
    funext j
    simp only [Function.comp, List.getD_cons_succ]
    rw [show k + 1 + j = k + (j + 1) from by omega]
theorem allQ_nameB (xs : List Nat) (hne : xs ≠ []) : allQ okB 0 xs = nameB xs := by
  rw [allQ_name]; unfold nameB; simp [hne]
def tabs (w : World) : Prop := Lib.Utf8Tabs 0 1 w
theorem e29 : ∀ args w, (callFunc 96 args).run Tryz.prog w = .ok (.enter 96 args) w := enters_of Tryz.func96 (by kernel_rfl) rfl
theorem allValid (s : ByteArray) (w : World) (hs : s.size ≤ maxLen) :
    Calls Tryz.prog 95 #[.string s, .func (.func 96) #[] #[]] w fun e w' => e = .returned (.bool ((runes s.data.toList).all xmlN)) ∧ Below w.heap.size w w' := by
  have := all_pure 96 e29 (fun _ r => xmlN r) (fun k a r hr W => validOne_any k a r hr W) s w hs
  rwa [allQ_const] at this
end Go.Proofs.YtemgabmafmehnaaGreatDoor
namespace Go.Proofs.YtemgabmafmehnaaGreatDoor
open Go.RowKit Go.Lib
set_option maxRecDepth 100000
theorem e35 : ∀ args w, (callFunc 110 args).run Tryz.prog w = .ok (.enter 110 args) w := enters_of Tryz.func110 (by kernel_rfl) rfl
theorem pred_space (w : World) : PredAt Tryz.prog 110 #[] encR spR w := fun W x _ => (space_any (x : Int) W).mono fun _ _ ⟨he, hw⟩ => ⟨he, 0, by rw [← hw]; rfl⟩
def strPost (B : Nat) (w : World) (l : List UInt8) (e : Ending) (w' : World) : Prop := ∃ o : ByteArray, e = .returned (.string o) ∧ o.data.toList = l ∧ Below B w w'
set_option maxHeartbeats 1000000 in
theorem trim_any (s : ByteArray) (w : World) (hs : s.size ≤ maxLen) (hT : tabs w) : Calls Tryz.prog 78 #[.string s] w (strPost w.heap.size w (trimB s.data.toList)) := by
  have cT := Tryz.strings_TrimFunc 110 #[] e35 spR s w (by unfold maxLen at hs; omega) hT (pred_space w)
  have E := Lib.hid (trimF_list s)
  obtain ⟨o, ho⟩ : ∃ o, Lib.trimF spR s = o := ⟨_, rfl⟩
  rw [ho] at cT E
  clear ho
  have C := Lib.hid cT
  clear cT
  go_enter Tryz.func78, Tryz.ntmps78
  go_wp2_with (go_at_call 109; refine C.out.mono ?_; rintro e w' ⟨rfl, hb⟩)
  go_ret
  exact ⟨o, rfl, E.out, hb⟩
end Go.Proofs.YtemgabmafmehnaaGreatDoor
namespace Go.Proofs.YtemgabmafmehnaaGreatDoor
open Go.RowKit Go.Lib
set_option maxRecDepth 100000
set_option maxHeartbeats 1000000 in
theorem compare_any (a b : ByteArray) (w : World) : Calls Tryz.prog 60 #[.string a, .string b] w fun e w' => e = .returned (.int .i64 (Lib.compareBytes a.data.toList b.data.toList)) ∧ w = w' := by
  have C := Lib.hid (Tryz.strings_Compare a b w)
  obtain ⟨r, hr⟩ : ∃ r, Lib.compareBytes a.data.toList b.data.toList = r := ⟨_, rfl⟩
  rw [hr] at C ⊢
  clear hr
  go_enter Tryz.func60, Tryz.ntmps60
  go_wp2_with (go_at_call 88; refine C.out.mono ?_; rintro e w' ⟨rfl, rfl⟩)
  go_ret
  exact ⟨rfl, rfl⟩
end Go.Proofs.YtemgabmafmehnaaGreatDoor
namespace Go.Proofs.YtemgabmafmehnaaGreatDoor
open Go.RowKit Go.Lib
set_option maxRecDepth 100000
def vS (s : ByteArray) : Bool := validX s.data.toList
def strsAt (w : World) (A : Option Addr) (ss : List ByteArray) : Prop := ∀ k, k < ss.length → ∃ g, A = some ⟨g, 0, none⟩ ∧ g < w.heap.size ∧ w.cell? ⟨g, k, none⟩ = some (.string (ss.getD k ByteArray.empty)) ∧ (ss.getD k ByteArray.empty).size ≤ maxLen
theorem allS_succ (ss : List ByteArray) (p : ByteArray → Bool) (k : Nat) (hk : k < ss.length) : (ss.take (k + 1)).all p = ((ss.take k).all p && p (ss.getD k ByteArray.empty)) := by
  rw [List.take_succ_eq_append_getElem hk, List.all_append, List.getD_eq_getElem?_getD, List.getElem?_eq_getElem hk]
  simp
theorem allS_false (ss : List ByteArray) (p : ByteArray → Bool) (k : Nat) (hk : k < ss.length) (h : p (ss.getD k ByteArray.empty) = false) : ss.all p = false := by
  rw [List.all_eq_false]
  refine ⟨ss[k], List.getElem_mem hk, ?_⟩
  rw [List.getD_eq_getElem?_getD, List.getElem?_eq_getElem hk] at h
  simpa using h
def validRel (w : World) (ss : List ByteArray) (n : Nat) (i : Value) (wx : World) : Prop := ∃ k : Nat, k ≤ n ∧ i = .int .i64 k ∧ Below w.heap.size w wx ∧ (ss.take k).all vS = true
set_option maxHeartbeats 1000000 in
theorem valid_any (A : Option Addr) (n cap : Nat) (ss : List ByteArray) (w : World) (hn : ss.length = n) (hn2 : n ≤ 1099511627776) (hT : tabs w) (hc : strsAt w A ss) :
    Calls Tryz.prog 70 #[.slice A n cap] w fun e w' => e = .returned (.bool (ss.all vS)) ∧ Below w.heap.size w w' := by
  have HN := Lib.hid hn
  have HC := Lib.hid hc
  have HT := Lib.hid hT
  clear hn hc hT
  go_enter Tryz.func70, Tryz.ntmps70
  go_wp2
  go_loopw [7] (fun i wx => validRel w ss n i wx) (fun i _ => n - (intOf i).toNat)
  case atStart => exact ⟨0, Nat.zero_le _, rfl, Below.refl _ _, by simp⟩
  case round =>
    obtain ⟨k, hk, rfl, hb, hall⟩ := hrel
    have HA := Lib.hid hall
    clear hall
    by_cases hlt : k < n
    · obtain ⟨g, rfl, hg, hcell, hsz⟩ := HC.out k (by rw [HN.out]; exact hlt)
      have hcell2 := (hb.cell (p := ⟨g, k, none⟩) hg).trans hcell
      have hsucc := Lib.hid (allS_succ ss vS k (by rw [HN.out]; exact hlt))
      have hfalse := Lib.hid (allS_false ss vS k (by rw [HN.out]; exact hlt))
      obtain ⟨s, hs⟩ : ∃ s, ss.getD k ByteArray.empty = s := ⟨_, rfl⟩
      rw [hs] at hcell2 hsucc hfalse hsz
      have c1 := Tryz.utf8_ValidString s wr (by unfold maxLen at hsz; omega) (Utf8Tabs_below HT.out hb)
      have c2 := fun W => allValid s W hsz
      have hv : vS s = (validD s.data.toList && (runes s.data.toList).all xmlN) := rfl
      obtain ⟨V, hV⟩ : ∃ V, validD s.data.toList = V := ⟨_, rfl⟩
      obtain ⟨X, hX⟩ : ∃ X, (runes s.data.toList).all xmlN = X := ⟨_, rfl⟩
      rw [hV] at c1 hv
      rw [hX] at c2 hv
      clear hV hX hs hcell
      have C1 := Lib.hid c1
      have C2 := Lib.hid c2
      clear c1 c2
      cases V
      · have hf := Lib.hid (hfalse.out (by rw [hv]; rfl))
        clear hv hfalse hsucc C2
        go_wp2_with (go_at_call 94; refine C1.out.mono ?_; rintro e w1 ⟨rfl, hb1⟩)
        go_ret
        exact ⟨ret_bool hf.out.symm, hb.trans (hb1.mono hb.size)⟩
      · cases X
        · have hf := Lib.hid (hfalse.out (by rw [hv]; rfl))
          clear hv hfalse hsucc
          go_wp2_with (first
            | (go_at_call 94; refine C1.out.mono ?_; rintro e w1 ⟨rfl, hb1⟩)
            | (go_at_call 95; refine (C2.out _).mono ?_; rintro e w2 ⟨rfl, hb2⟩))
          go_ret
          exact ⟨ret_bool hf.out.symm, (hb.trans (hb1.mono hb.size)).trans (hb2.mono (Nat.le_trans hb.size hb1.size))⟩
        · have hf : Hid ((ss.take (k + 1)).all vS = true) := Lib.hid (by rw [hsucc.out, HA.out, hv]; rfl)
          clear hv hfalse hsucc
          go_wp2_with (first
            | (go_at_call 94; refine C1.out.mono ?_; rintro e w1 ⟨rfl, hb1⟩)
            | (go_at_call 95; refine (C2.out _).mono ?_; rintro e w2 ⟨rfl, hb2⟩))
          go_roundw
          case rel => exact ⟨k + 1, by omega, by go_num, (hb.trans (hb1.mono hb.size)).trans (hb2.mono (Nat.le_trans hb.size hb1.size)), hf.out⟩
          case measure => simp [intOf]; omega
    · obtain rfl : k = n := by omega
      have hf : Hid (ss.all vS = true) := Lib.hid (by have := HA.out; rwa [List.take_of_length_le (by rw [HN.out]; exact Nat.le_refl _)] at this)
      clear HA
      go_wp2
      go_ret
      exact ⟨ret_bool hf.out.symm, hb⟩
end Go.Proofs.YtemgabmafmehnaaGreatDoor
