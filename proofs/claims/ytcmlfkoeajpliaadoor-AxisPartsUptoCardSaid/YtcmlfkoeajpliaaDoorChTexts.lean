/- Texts: valid, trimmed, names. No condition beyond what the theorems state. -/
import Derived.Test.YtcmlfkoeajpliaaDoorChBytes
import Derived.Laws.RangeAny
import Derived.Lib.RuneCount
import Derived.Lib.OthersKept
import Derived.Shelf.GgClosure.Gives
import Derived.Test.YtcmlfkoeajpliaaDoorShelf
namespace Go.Proofs.YtcmlfkoeajpliaaDoor
open Go.RowKit Go.Lib
set_option maxRecDepth 100000
def spN (b : UInt8) : Bool := spaceB (b.toNat : Int)
def trimB (l : List UInt8) : List UInt8 := ((l.dropWhile spN).reverse.dropWhile spN).reverse
theorem dropWhile_all {p : UInt8 → Bool} : ∀ (a b : List UInt8), (∀ x ∈ a, p x = true) → (a ++ b).dropWhile p = b.dropWhile p
  | [], _, _ => rfl
  | x :: a, b, h => by
    rw [List.cons_append, List.dropWhile_cons, h x (by simp), if_pos rfl]
    exact dropWhile_all a b fun y hy => h y (by simp [hy])
theorem dropWhile_head {p : UInt8 → Bool} (x : UInt8) (a : List UInt8) (h : p x = false) : (x :: a).dropWhile p = x :: a := by rw [List.dropWhile_cons, h]; rfl
/-- the two ends of what is left -/
def endsOk (m : List UInt8) : Prop := m = [] ∨ (∃ x t, m = x :: t ∧ spN x = false) ∧ (∃ t y, m = t ++ [y] ∧ spN y = false)
theorem trimB_of (p m q : List UInt8) (hp : ∀ x ∈ p, spN x = true) (hq : ∀ x ∈ q, spN x = true) (hm : endsOk m) : trimB (p ++ m ++ q) = m := by
  unfold trimB
  rw [List.append_assoc, dropWhile_all p _ hp]
  rcases hm with rfl | ⟨⟨x, t, hx, hxs⟩, t', y, hy, hys⟩
  · rw [List.nil_append, show q.dropWhile spN = [] from by simpa using dropWhile_all q [] hq]; rfl
  · rw [show (m ++ q).dropWhile spN = m ++ q from by rw [hx, List.cons_append]; exact dropWhile_head _ _ hxs]
    rw [List.reverse_append, dropWhile_all _ _ (by simpa using hq)]
    rw [show m.reverse.dropWhile spN = m.reverse from by rw [hy, List.reverse_append]; exact dropWhile_head _ _ hys, List.reverse_reverse]
theorem mem_take_get {l : List UInt8} {k : Nat} {x : UInt8} (h : x ∈ l.take k) : ∃ j, j < k ∧ j < l.length ∧ l.getD j 0 = x := by
  obtain ⟨j, hj, e⟩ := List.mem_iff_getElem.1 h
  rw [List.length_take] at hj
  exact ⟨j, by omega, by omega, by rw [List.getD_eq_getElem?_getD, List.getElem?_eq_getElem (by omega)]; simpa using e⟩
theorem mem_drop_get {l : List UInt8} {k : Nat} {x : UInt8} (h : x ∈ l.drop k) : ∃ j, k ≤ j ∧ j < l.length ∧ l.getD j 0 = x := by
  obtain ⟨j, hj, e⟩ := List.mem_iff_getElem.1 h
  rw [List.length_drop] at hj
  exact ⟨k + j, by omega, by omega, by rw [List.getD_eq_getElem?_getD, List.getElem?_eq_getElem (by omega)]; simpa using e⟩
/-- by places -/
theorem trimB_at (l : List UInt8) (i j : Nat) (hij : i ≤ j) (hj : j ≤ l.length) (h1 : ∀ k, k < i → spN (l.getD k 0) = true) (h2 : ∀ k, j ≤ k → k < l.length → spN (l.getD k 0) = true)
    (h3 : i = j ∨ spN (l.getD i 0) = false) (h4 : i = j ∨ spN (l.getD (j - 1) 0) = false) : trimB l = (l.take j).drop i := by
  have e : l = (l.take j).take i ++ (l.take j).drop i ++ l.drop j := by rw [List.take_append_drop, List.take_append_drop]
  conv => lhs; rw [e]
  refine trimB_of _ _ _ ?_ ?_ ?_
  · intro x hx
    rw [List.take_take, Nat.min_eq_left hij] at hx
    obtain ⟨k, hk, _, rfl⟩ := mem_take_get hx
    exact h1 k hk
  · intro x hx
    obtain ⟨k, hk, hk2, rfl⟩ := mem_drop_get hx
    exact h2 k hk hk2
  · by_cases c : i = j
    · left; subst c; simp
    · right
      have hi : i < (l.take j).length := by rw [List.length_take]; omega
      have hl : ((l.take j).drop i).length = j - i := by rw [List.length_drop, List.length_take]; omega
      constructor
      · refine ⟨(l.take j)[i], (l.take j).drop (i + 1), List.drop_eq_getElem_cons hi, ?_⟩
        have := h3.resolve_left c
        rw [List.getD_eq_getElem?_getD, List.getElem?_eq_getElem (by omega)] at this
        simpa using this
      · have hne : (l.take j).drop i ≠ [] := by intro h; rw [h] at hl; simp at hl; omega
        refine ⟨((l.take j).drop i).dropLast, ((l.take j).drop i).getLast hne, (List.dropLast_concat_getLast hne).symm, ?_⟩
        have := h4.resolve_left c
        rw [List.getD_eq_getElem?_getD, List.getElem?_eq_getElem (by omega)] at this
        rw [List.getLast_eq_getElem, List.getElem_drop]
        simp only [List.getElem_take]
        simp only [hl]
        simpa [show i + (j - i - 1) = j - 1 from by omega] using this
end Go.Proofs.YtcmlfkoeajpliaaDoor
namespace Go.Proofs.YtcmlfkoeajpliaaDoor
open Go.RowKit Go.Lib
set_option maxRecDepth 100000
def spAt (s : ByteArray) (k : Nat) : Bool := spN (s.data.toList.getD k 0)
theorem spAt_get (s : ByteArray) (k : Nat) (h : k < s.size) : spaceB ((s[k]'h).toNat : Int) = spAt s k := by
  unfold spAt spN
  rw [bN_get s k h]; rfl
def trimPost (s : ByteArray) (w : World) (e : Ending) (w' : World) : Prop := ∃ i j, i ≤ j ∧ j ≤ s.size ∧ e = .returned (.string (s.extract i j)) ∧ (s.extract i j).data.toList = trimB s.data.toList ∧ w = w'
end Go.Proofs.YtcmlfkoeajpliaaDoor
namespace Go.Proofs.YtcmlfkoeajpliaaDoor
open Go.RowKit Go.Lib
set_option maxRecDepth 100000
def colGo : Bool → List UInt8 → List UInt8
  | _, [] => []
  | prev, b :: t => if spN b = true then (if prev = true then colGo true t else 32 :: colGo true t) else b :: colGo false t
def normB (l : List UInt8) : List UInt8 := colGo true (trimB l)
theorem colGo_at (prev : Bool) (l : List UInt8) (k : Nat) (hk : k < l.length) : colGo prev (l.drop k) =
    if spN (l.getD k 0) = true then (if prev = true then colGo true (l.drop (k + 1)) else 32 :: colGo true (l.drop (k + 1))) else l.getD k 0 :: colGo false (l.drop (k + 1)) := by
  rw [List.drop_eq_getElem_cons hk, colGo, List.getD_eq_getElem?_getD, List.getElem?_eq_getElem hk]
  rfl
theorem trimB_ends (l : List UInt8) : trimB l = [] ∨ spN ((trimB l).getD 0 0) = false := by
  unfold trimB
  obtain ⟨a, ha⟩ : ∃ a, l.dropWhile spN = a := ⟨_, rfl⟩
  have hh : a = [] ∨ spN (a.getD 0 0) = false := by
    rw [← ha]
    cases h : l.dropWhile spN with
    | nil => exact .inl rfl
    | cons x t =>
      right
      have := List.head_dropWhile_not spN (l := l) (by rw [h]; simp)
      simp only [h] at this
      simpa using this
  rw [ha]
  obtain ⟨b, hb⟩ : ∃ b, a.reverse.dropWhile spN = b := ⟨_, rfl⟩
  rw [hb]
  by_cases hn : b = []
  · left; simp [hn]
  · right
    have hne : a ≠ [] := by rintro rfl; simp at hb; exact hn hb
    -- b is a suffix of a.reverse, so b.reverse is a prefix of a
    have hsuf : b <:+ a.reverse := by rw [← hb]; exact List.dropWhile_suffix _
    have hpre : b.reverse <+: a := by have := List.reverse_prefix.2 hsuf; simpa using this
    obtain ⟨c, hc⟩ := hpre
    have hbl : 0 < b.reverse.length := by simp [List.length_pos_iff, hn]
    have h1 := hh.resolve_left hne
    rw [← hc] at h1
    rw [List.getD_eq_getElem?_getD, List.getElem?_append_left hbl] at h1
    rwa [List.getD_eq_getElem?_getD]
def normPost (s : ByteArray) (w : World) (e : Ending) (w' : World) : Prop := ∃ o : ByteArray, e = .returned (.string o) ∧ o.data.toList = normB s.data.toList ∧ w = w'
theorem extract_one (s : ByteArray) (k : Nat) (hk : k < s.size) : (s.extract k (k + 1)).data.toList = [s.data.toList.getD k 0] := by
  have h' : k < s.data.toList.length := by simpa using hk
  rw [extract_list, List.drop_take, List.drop_eq_getElem_cons h', show k + 1 - k = 1 from by omega, List.getD_eq_getElem?_getD, List.getElem?_eq_getElem h']
  rfl
theorem append_list (a b : ByteArray) : (a ++ b).data.toList = a.data.toList ++ b.data.toList := by simp [ByteArray.data_append]

def normRel (s t : ByteArray) (so si : Value) : Prop := ∃ (k : Nat) (o : ByteArray) (pb : Bool), k ≤ t.size ∧ si = .int .i64 k ∧ so = .string o ∧ o.size ≤ k ∧ (k = 0 ∨ pb = spAt t (k - 1)) ∧ Hid (normB s.data.toList = o.data.toList ++ colGo pb (t.data.toList.drop k))
end Go.Proofs.YtcmlfkoeajpliaaDoor
namespace Go.Proofs.YtcmlfkoeajpliaaDoor
open Go.RowKit Go.Lib
set_option maxRecDepth 100000
def okP (k x : Nat) : Prop := letterP (x : Int) ∨ (0 < k ∧ followP (x : Int))
instance (k x : Nat) : Decidable (okP k x) := by unfold okP; infer_instance
def nameP (xs : List Nat) : Prop := xs ≠ [] ∧ ∀ k, k < xs.length → okP k (xs.getD k 0)
def nameB (xs : List Nat) : Bool := !xs.isEmpty && (List.range xs.length).all fun k => decide (okP k (xs.getD k 0))
theorem nameB_true {xs : List Nat} (hne : xs ≠ []) (h : ∀ k, k < xs.length → okP k (xs.getD k 0)) : nameB xs = true := by
  unfold nameB
  simp [hne]
  intro k hk
  have := h k hk
  simpa [List.getD_eq_getElem?_getD] using this
theorem nameB_false {xs : List Nat} (k : Nat) (hk : k < xs.length) (h : ¬ okP k (xs.getD k 0)) : nameB xs = false := by
  unfold nameB
  rw [Bool.and_eq_false_iff]
  right
  rw [List.all_eq_false]
  exact ⟨k, List.mem_range.2 hk, by simpa using h⟩
def nameX (l : List UInt8) : Bool := validX l && nameB (runes l)

set_option maxHeartbeats 2000000 in
theorem name_ref (s : ByteArray) (w : World) (hs : s.size ≤ 1099511627776) : Calls Tryd.prog 49 #[.string s] w fun e w' => e = .returned (.bool (nameX s.data.toList)) ∧ Below w.heap.size w w' := by
  have cP := points_ref s w hs
  have cV := fun W => valid_ref s W hs
  obtain ⟨l, hl⟩ : ∃ l, s.data.toList = l := ⟨_, rfl⟩
  rw [hl] at cP cV ⊢
  have hsz : l.length = s.size := by rw [← hl]; simp
  have hrl := runes_le l
  clear hl
  unfold nameX
  unfold ptsOut at cP
  obtain ⟨X, hX⟩ : ∃ X, validX l = X := ⟨_, rfl⟩
  have hXv : X = true → validD l = true := by rw [← hX]; unfold validX; intro h; exact (Bool.and_eq_true_iff.1 h).1
  rw [hX] at cV ⊢
  obtain ⟨xs, hxs⟩ : ∃ xs, runes l = xs := ⟨_, rfl⟩
  rw [hxs] at cP hrl ⊢
  rw [hsz] at hrl
  clear hxs hsz hX
  have H := Lib.hid cP
  have HV := Lib.hid cV
  have HX := Lib.hid hXv
  clear cP cV hXv
  go_enter Tryd.func49, Tryd.ntmps49
  go_wp2_with fail
  refine H.out.mono ?_
  clear H
  rintro e w1 h1
  have h2 : ∃ (A : Option Addr) (n cap : Nat) (V : Bool), e = .returned (.tuple #[.slice A n cap, .bool V]) ∧ Below w.heap.size w w1 ∧ n ≤ s.size ∧
      (X = true → n = xs.length ∧ ∀ k, k < n → ∃ g, A = some ⟨g, 0, none⟩ ∧ g < w1.heap.size ∧ w1.cell? ⟨g, k, none⟩ = some (.int .i64 ((xs.getD k 0 : Nat) : Int))) := by
    rcases h1 with ⟨hv, v, rfl, hown, hb⟩ | ⟨hv, rfl, hb⟩
    · obtain ⟨A, cap, rfl, hxl, hrd⟩ := own_read hown
      refine ⟨A, _, cap, true, rfl, hb, hrl, fun _ => ⟨rfl, fun k hk => ?_⟩⟩
      obtain ⟨g, rfl, hc⟩ := hrd k hk
      exact ⟨g, rfl, (hown.lt g rfl).2, hc⟩
    · exact ⟨none, 0, 0, false, rfl, hb, by omega, fun h => by rw [HX.out h] at hv; cases hv⟩
  clear h1
  obtain ⟨A, n, cap, V, rfl, hb, hns, hrd⟩ := h2
  have RD := Lib.hid hrd
  clear hrd
  cases X
  · go_wp2_with fail
    refine (HV.out _).mono ?_
    rintro e w2 ⟨rfl, hb2⟩
    go_wp2
    go_ret
    exact ⟨rfl, hb.trans (hb2.mono hb.size)⟩
  · obtain ⟨hn, hrd⟩ := RD.out rfl
    clear RD
    have HN := Lib.hid hn
    clear hn
    have RD := Lib.hid hrd
    clear hrd
    go_wp2_with fail
    refine (HV.out _).mono ?_
    clear HV
    rintro e w2 ⟨rfl, hb2⟩
    by_cases hn0 : n = 0
    · subst hn0
      go_wp2
      go_ret
      refine ⟨ret_bool ?_, hb.trans (hb2.mono hb.size)⟩
      have : xs = [] := List.eq_nil_of_length_eq_zero HN.out.symm
      rw [this]; rfl
    · have hnz : ((n : Int) == 0) = false := by simp; omega
      go_wp2
      go_loop [5] (fun i => ∃ k : Nat, k ≤ n ∧ i = .int .i64 k ∧ Hid (∀ j, j < k → okP j (xs.getD j 0))) (fun i => n - (intOf i).toNat)
      case atStart => exact ⟨0, Nat.zero_le _, rfl, Lib.hid fun j hj => absurd hj (by omega)⟩
      case round =>
        obtain ⟨k, hk, rfl, hok⟩ := hrel
        by_cases hlt : k < n
        · obtain ⟨g, rfl, hg, hc⟩ := RD.out k hlt
          have hc2 := (hb2.cell (p := ⟨g, k, none⟩) hg).trans hc
          have hts : Hid (okP k (xs.getD k 0) → ∀ j, j < k + 1 → okP j (xs.getD j 0)) := Lib.hid fun h j hj => by
            by_cases e : j = k
            · subst e; exact h
            · exact hok.out j (by omega)
          have hfs : Hid (¬ okP k (xs.getD k 0) → nameB xs = false) := Lib.hid fun h => nameB_false k (by rw [← HN.out]; exact hlt) h
          obtain ⟨x, hx⟩ : ∃ x, xs.getD k 0 = x := ⟨_, rfl⟩
          rw [hx] at hc2 hts hfs
          clear hx hc hok
          rcases Nat.eq_zero_or_pos k with rfl | hk0
          · go_wp2
            all_goals first
              | (go_round
                 case rel => exact ⟨1, by omega, rfl, Lib.hid (hts.out (by go_light; clear hts hfs; simp only [Bool.not_eq_false', beq_iff_eq, beq_eq_false_iff_ne, ne_eq, decide_eq_true_eq] at *; unfold okP letterP followP; omega))⟩
                 case measure => simp [intOf]; omega)
              | (go_ret
                 exact ⟨ret_bool (hfs.out (by go_light; clear hts hfs; simp only [Bool.not_eq_true', beq_eq_false_iff_ne, ne_eq, decide_eq_false_iff_not] at *; unfold okP letterP followP; omega)).symm, hb.trans (hb2.mono hb.size)⟩)
          · have hkz : ((k : Int) == 0) = false := by simp; omega
            go_wp2
            all_goals first
              | (go_round
                 case rel => exact ⟨k + 1, by omega, by go_num, Lib.hid (hts.out (by go_light; clear hts hfs; simp only [Bool.not_eq_false', beq_iff_eq, beq_eq_false_iff_ne, ne_eq, decide_eq_true_eq] at *; unfold okP letterP followP; omega))⟩
                 case measure => simp [intOf]; omega)
              | (go_ret
                 exact ⟨ret_bool (hfs.out (by go_light; clear hts hfs; simp only [Bool.not_eq_true', beq_eq_false_iff_ne, ne_eq, decide_eq_false_iff_not] at *; unfold okP letterP followP; omega)).symm, hb.trans (hb2.mono hb.size)⟩)
        · obtain rfl : k = n := by omega
          go_wp2
          go_ret
          refine ⟨ret_bool ?_, hb.trans (hb2.mono hb.size)⟩
          have hne : xs ≠ [] := by intro h; have := HN.out; rw [h] at this; simp at this; omega
          rw [nameB_true hne (fun j hj => hok.out j (by rw [HN.out]; exact hj))]
end Go.Proofs.YtcmlfkoeajpliaaDoor
namespace Go.Proofs.YtcmlfkoeajpliaaDoor
open Go.RowKit Go.Lib
set_option maxRecDepth 100000
set_option maxHeartbeats 1000000 in
theorem validOne_any (k a : Int) (r : Nat) (hr : r ≤ 1114111) (w : World) : Calls Tryd.prog 105 #[.int .i64 k, .int .i64 a, .int .i32 r] w fun e w' => e = .returned (.bool (xmlN r)) ∧ w = w' := by
  have H := Lib.hid (listed_any (r : Int))
  rw [show xmlB (r : Int) = xmlN r from rfl] at H
  go_enter Tryd.func105, Tryd.ntmps105
  go_wp2_with (go_at_call 106; refine (H.out _).mono ?_; rintro e w' ⟨rfl, rfl⟩)
  go_ret
  exact ⟨rfl, rfl⟩
def okB (k r : Nat) : Bool := decide (okP k r)
set_option maxHeartbeats 1000000 in
theorem nameOne_any (k : Nat) (a : Int) (r : Nat) (_hr : r ≤ 1114111) (w : World) : Calls Tryd.prog 101 #[.int .i64 k, .int .i64 a, .int .i32 r] w fun e w' => e = .returned (.bool (okB k r)) ∧ w = w' := by
  cases hL : letterB (r : Int)
  · have H := Lib.hid (letter_any (r : Int))
    rw [hL] at H
    rcases Nat.eq_zero_or_pos k with rfl | hk
    · have E : Hid (okB 0 r = false) := Lib.hid (by
        have h : ¬ letterP (r : Int) := by rw [← letterB_iff, hL]; simp
        unfold okB; rw [decide_eq_false_iff_not]; unfold okP
        intro h'; rcases h' with h' | h'
        · exact h h'
        · exact absurd h'.1 (by omega))
      clear hL
      go_enter Tryd.func101, Tryd.ntmps101
      go_wp2_with (go_at_call 102; refine (H.out _).mono ?_; rintro e w' ⟨rfl, rfl⟩)
      go_ret
      exact ⟨ret_bool E.out.symm, rfl⟩
    · have H2 := Lib.hid (follows_any (r : Int))
      have E : Hid (okB k r = followB (r : Int)) := Lib.hid (by
        have : ¬ letterP (r : Int) := by rw [← letterB_iff, hL]; simp
        rw [Bool.eq_iff_iff, followB_iff]; unfold okB; rw [decide_eq_true_iff]; unfold okP
        constructor
        · intro h; rcases h with h | h; exact absurd h this; exact h.2
        · intro h; exact .inr ⟨hk, h⟩)
      clear hL
      go_enter Tryd.func101, Tryd.ntmps101
      go_wp2_with (first | (go_at_call 102; refine (H.out _).mono ?_; rintro e w' ⟨rfl, rfl⟩) | (go_at_call 103; refine (H2.out _).mono ?_; rintro e w' ⟨rfl, rfl⟩))
      go_ret
      exact ⟨ret_bool E.out.symm, rfl⟩
  · have H := Lib.hid (letter_any (r : Int))
    rw [hL] at H
    have E : Hid (okB k r = true) := Lib.hid (by unfold okB; rw [decide_eq_true_iff]; exact .inl ((letterB_iff _).1 hL))
    clear hL
    go_enter Tryd.func101, Tryd.ntmps101
    go_wp2_with (go_at_call 102; refine (H.out _).mono ?_; rintro e w' ⟨rfl, rfl⟩)
    go_ret
    exact ⟨ret_bool E.out.symm, rfl⟩
end Go.Proofs.YtcmlfkoeajpliaaDoor
namespace Go.Proofs.YtcmlfkoeajpliaaDoor
open Go.RowKit Go.Lib
set_option maxRecDepth 100000
def allStep (s : ByteArray) (it : Nat) (I : Nat → Nat → World → Prop) (J : World → Prop) (k pos : Nat) (e : Ending) (w' : World) : Prop :=
  (e = .returned (.bool true) ∧ w'.heap[it]? = some (.stringIter s (pos + (Utf8.decode s pos).2)) ∧ I (k + 1) (pos + (Utf8.decode s pos).2) w') ∨ (e = .returned (.bool false) ∧ J w')
def allPost (s : ByteArray) (I : Nat → Nat → World → Prop) (J : World → Prop) (e : Ending) (w' : World) : Prop :=
  (e = .returned (.bool true) ∧ ∃ k, k ≤ s.size ∧ I k s.size w') ∨ (e = .returned (.bool false) ∧ J w')
def bothOf (b : Bool) (p q : Prop) : Prop := if b then p else q
theorem bothOf_t {p q : Prop} (h : bothOf true p q) : p := h
theorem bothOf_f {p q : Prop} (h : bothOf false p q) : q := h
def allRel (s : ByteArray) (it : Nat) (I : Nat → Nat → World → Prop) (gf : Nat) (v : Value) (wx : World) : Prop :=
  ∃ k pos : Nat, v = .int .i64 k ∧ I k pos wx ∧ wx.heap[it]? = some (.stringIter s pos) ∧ pos ≤ s.size ∧ s.size ≤ pos + gf ∧ k ≤ pos
set_option maxHeartbeats 1000000 in
theorem all_inv (g : Nat) (lb : Array Value) (eg : ∀ args w, (callFunc g args).run Tryd.prog w = .ok (.enter g args) w) (s : ByteArray) (w : World) (hs : s.size ≤ maxLen) (I : Nat → Nat → World → Prop) (J : World → Prop)
    (h0 : I 0 0 (w.iter s 0))
    (hstep : ∀ k pos W, k ≤ pos → pos < s.size → I k pos W → W.heap[w.heap.size]? = some (.stringIter s pos) →
      Calls Tryd.prog g (#[.int .i64 k, .int .i64 pos, .int .i32 (Utf8.decode s pos).1] ++ lb) (W.iterAt w.heap.size s (pos + (Utf8.decode s pos).2)) (allStep s w.heap.size I J k pos)) :
    Calls Tryd.prog 100 #[.string s, .func (.func g) #[] lb] w (allPost s I J) := by
  unfold maxLen at hs
  have HS := Lib.hid hstep
  have H0 := Lib.hid h0
  clear hstep h0
  go_enter Tryd.func100, Tryd.ntmps100
  go_wp2
  go_loopg [5] s.size (fun gf s5 wx => allRel s w.heap.size I gf s5 wx)
  case atStart => exact ⟨0, 0, rfl, H0.out, World.iter_heap w s 0, Nat.zero_le _, by omega, Nat.le_refl _⟩
  case round =>
    obtain ⟨k, pos, rfl, hI, hit, hps, hfu, hkp⟩ := hrel
    by_cases hlt : pos < s.size
    · obtain ⟨g', rfl⟩ : ∃ g', gk = g' + 1 := ⟨gk - 1, by omega⟩
      have hnx : ∀ ty, (Instr.next (.pointer (some ⟨w.heap.size, 0, none⟩)) true ty).run Tryd.prog wr = _ := fun ty => Lib.run_next_any_at wr w.heap.size s pos ty hit hlt
      have hwd := Lib.width_pos s pos
      have hwn : pos + (Utf8.decode s pos).2 ≤ s.size := by
        have := Lib.decodeN_le_n' (s.size - pos) (s.get! pos).toNat (s.get! (pos + 1)).toNat (s.get! (pos + 2)).toNat (s.get! (pos + 3)).toNat (by omega)
        rw [← Lib.decode_at] at this
        omega
      have cS := HS.out k pos wr hkp hlt hI hit
      unfold allStep at cS
      obtain ⟨R, hR⟩ : ∃ R, (Utf8.decode s pos).1 = R := ⟨_, rfl⟩
      obtain ⟨K, hK⟩ : ∃ K, (Utf8.decode s pos).2 = K := ⟨_, rfl⟩
      rw [hR, hK] at hnx cS
      rw [hK] at hwd hwn
      obtain ⟨W, hWd⟩ : ∃ W, wr.iterAt w.heap.size s (pos + K) = W := ⟨_, rfl⟩
      rw [hWd] at hnx cS
      have CS := Lib.hid cS
      have HI := Lib.hid hit
      clear hI hit HS cS hR hK hWd HI H0
      go_wp2_with (go_at_fn g; go_must (refine CS.out.mono ?_))
      rintro e w' h
      have h' : ∃ b, e = .returned (.bool b) ∧ bothOf b (w'.heap[w.heap.size]? = some (.stringIter s (pos + K)) ∧ I (k + 1) (pos + K) w') (J w') := by
        rcases h with ⟨rfl, a, b⟩ | ⟨rfl, a⟩
        · exact ⟨true, rfl, ⟨a, b⟩⟩
        · exact ⟨false, rfl, a⟩
      clear h CS
      obtain ⟨b, rfl, h1⟩ := h'
      cases b
      · have h2 := Lib.hid (bothOf_f h1)
        clear h1
        go_wp2
        go_ret
        exact .inr ⟨rfl, h2.out⟩
      · have h2 := Lib.hid (bothOf_t h1)
        clear h1
        go_wp2
        go_roundg g'
        case measure => omega
        case rel => exact ⟨k + 1, pos + K, by go_num, h2.out.2, h2.out.1, hwn, by omega, by omega⟩
    · obtain rfl : pos = s.size := by omega
      have hnx : ∀ ty, (Instr.next (.pointer (some ⟨w.heap.size, 0, none⟩)) true ty).run Tryd.prog wr = _ := fun ty => Lib.run_next_end_at wr w.heap.size s s.size ty hit hlt
      have HI := Lib.hid hI
      clear hI hit HS H0
      go_wp2
      go_ret
      exact .inl ⟨rfl, k, hkp, HI.out⟩
end Go.Proofs.YtcmlfkoeajpliaaDoor
namespace Go.Proofs.YtcmlfkoeajpliaaDoor
open Go.RowKit Go.Lib
set_option maxHeartbeats 4000000
set_option maxRecDepth 100000
def allQ (q : Nat → Nat → Bool) : Nat → List Nat → Bool
  | _, [] => true
  | k, r :: t => q k r && allQ q (k + 1) t
theorem drop_ne (l : List UInt8) (pos : Nat) (h : pos < l.length) : l.drop pos ≠ [] := by
  intro e
  have := congrArg List.length e
  simp at this
  omega
theorem runes_drop (l : List UInt8) (pos : Nat) (h : pos < l.length) : runes (l.drop pos) = (decodeL (l.drop pos)).1 :: runes (l.drop (pos + (decodeL (l.drop pos)).2)) := by
  rw [runes_step _ (drop_ne l pos h), List.drop_drop]
theorem below_iter (w : World) (s : ByteArray) : Below w.heap.size w (w.iter s 0) := (Below.refl _ _).alloc (Nat.le_refl _) _
theorem all_pure (g : Nat) (eg : ∀ args w, (callFunc g args).run Tryd.prog w = .ok (.enter g args) w) (q : Nat → Nat → Bool)
    (hq : ∀ (k a r : Nat), r ≤ 1114111 → ∀ W : World, Calls Tryd.prog g #[.int .i64 k, .int .i64 a, .int .i32 r] W fun e w' => e = .returned (.bool (q k r)) ∧ W = w')
    (s : ByteArray) (w : World) (hs : s.size ≤ maxLen) :
    Calls Tryd.prog 100 #[.string s, .func (.func g) #[] #[]] w fun e w' => e = .returned (.bool (allQ q 0 (runes s.data.toList))) ∧ Below w.heap.size w w' := by
  have hz : s.data.toList.length = s.size := by simp
  refine (all_inv g #[] eg s w hs (fun k pos W => Below w.heap.size w W ∧ allQ q 0 (runes s.data.toList) = allQ q k (runes (s.data.toList.drop pos))) (fun W => Below w.heap.size w W ∧ allQ q 0 (runes s.data.toList) = false) ?_ ?_).mono ?_
  · exact ⟨below_iter w s, rfl⟩
  · rintro k pos W hk hp ⟨hb, he⟩ hit
    rw [runes_drop _ _ (by rw [hz]; exact hp), decodeL_drop] at he
    refine (hq k pos (Utf8.decode s pos).1 (rune_le s pos) _).mono ?_
    rintro e w' ⟨rfl, rfl⟩
    have hb' := Lib.below_iterAt hb (Nat.le_refl _) s (pos + (Utf8.decode s pos).2)
    cases hv : q k (Utf8.decode s pos).1
    · exact .inr ⟨rfl, hb', by rw [he, allQ, hv]; rfl⟩
    · exact .inl ⟨rfl, Lib.iterAt_heap W _ s pos _ hit, hb', by rw [he, allQ, hv]; rfl⟩
  · rintro e w' (⟨rfl, k, hk, hb, he⟩ | ⟨rfl, hb, he⟩)
    · rw [List.drop_eq_nil_of_le (by rw [hz]; exact Nat.le_refl _)] at he
      exact ⟨by rw [he]; rfl, hb⟩
    · exact ⟨by rw [he], hb⟩
theorem allQ_const (p : Nat → Bool) : ∀ (k : Nat) (l : List Nat), allQ (fun _ r => p r) k l = l.all p
  | _, [] => rfl
  | k, r :: t => by rw [allQ, List.all_cons, allQ_const p (k + 1) t]
theorem allQ_name : ∀ (t : List Nat) (k : Nat), allQ okB k t = (List.range t.length).all fun j => decide (okP (k + j) (t.getD j 0))
  | [], _ => rfl
  | r :: t, k => by
    rw [allQ, allQ_name t (k + 1), List.length_cons, List.range_succ_eq_map, List.all_cons, List.all_map]
    congr 1
    apply congrArg (fun f => (List.range t.length).all f)
    funext j
    simp only [Function.comp, List.getD_cons_succ]
    rw [show k + 1 + j = k + (j + 1) from by omega]
theorem allQ_nameB (xs : List Nat) (hne : xs ≠ []) : allQ okB 0 xs = nameB xs := by
  rw [allQ_name]; unfold nameB; simp [hne]
def tabs (w : World) : Prop := Lib.Utf8Tabs 0 1 w
theorem e29 : ∀ args w, (callFunc 105 args).run Tryd.prog w = .ok (.enter 105 args) w := enters_of Tryd.func105 (by kernel_rfl) rfl
theorem e31 : ∀ args w, (callFunc 101 args).run Tryd.prog w = .ok (.enter 101 args) w := enters_of Tryd.func101 (by kernel_rfl) rfl
theorem allValid (s : ByteArray) (w : World) (hs : s.size ≤ maxLen) :
    Calls Tryd.prog 100 #[.string s, .func (.func 105) #[] #[]] w fun e w' => e = .returned (.bool ((runes s.data.toList).all xmlN)) ∧ Below w.heap.size w w' := by
  have := all_pure 105 e29 (fun _ r => xmlN r) (fun k a r hr W => validOne_any k a r hr W) s w hs
  rwa [allQ_const] at this
theorem allName (s : ByteArray) (w : World) (hs : s.size ≤ maxLen) :
    Calls Tryd.prog 100 #[.string s, .func (.func 101) #[] #[]] w fun e w' => e = .returned (.bool (allQ okB 0 (runes s.data.toList))) ∧ Below w.heap.size w w' :=
  all_pure 101 e31 okB (fun k a r hr W => nameOne_any k a r hr W) s w hs
end Go.Proofs.YtcmlfkoeajpliaaDoor
namespace Go.Proofs.YtcmlfkoeajpliaaDoor
open Go.RowKit Go.Lib
set_option maxRecDepth 100000
def vS (s : ByteArray) : Bool := validX s.data.toList
def strsAt (w : World) (A : Option Addr) (ss : List ByteArray) : Prop := ∀ k, k < ss.length → ∃ g, A = some ⟨g, 0, none⟩ ∧ g < w.heap.size ∧ w.cell? ⟨g, k, none⟩ = some (.string (ss.getD k ByteArray.empty)) ∧ (ss.getD k ByteArray.empty).size ≤ maxLen
theorem allS_succ (ss : List ByteArray) (p : ByteArray → Bool) (k : Nat) (hk : k < ss.length) : (ss.take (k + 1)).all p = ((ss.take k).all p && p (ss.getD k ByteArray.empty)) := by
  rw [List.take_succ_eq_append_getElem hk, List.all_append, List.getD_eq_getElem?_getD, List.getElem?_eq_getElem hk]
  simp
theorem allS_false (ss : List ByteArray) (p : ByteArray → Bool) (k : Nat) (hk : k < ss.length) (h : p (ss.getD k ByteArray.empty) = false) : ss.all p = false := by
  rw [List.all_eq_false]
  refine ⟨ss[k], List.getElem_mem hk, ?_⟩
  rw [List.getD_eq_getElem?_getD, List.getElem?_eq_getElem hk] at h
  simpa using h
def validRel (w : World) (ss : List ByteArray) (n : Nat) (i : Value) (wx : World) : Prop := ∃ k : Nat, k ≤ n ∧ i = .int .i64 k ∧ Below w.heap.size w wx ∧ (ss.take k).all vS = true
set_option maxHeartbeats 1000000 in
theorem valid_any (A : Option Addr) (n cap : Nat) (ss : List ByteArray) (w : World) (hn : ss.length = n) (hn2 : n ≤ 1099511627776) (hT : tabs w) (hc : strsAt w A ss) :
    Calls Tryd.prog 79 #[.slice A n cap] w fun e w' => e = .returned (.bool (ss.all vS)) ∧ Below w.heap.size w w' := by
  have HN := Lib.hid hn
  have HC := Lib.hid hc
  have HT := Lib.hid hT
  clear hn hc hT
  go_enter Tryd.func79, Tryd.ntmps79
  go_wp2
  go_loopw [7] (fun i wx => validRel w ss n i wx) (fun i _ => n - (intOf i).toNat)
  case atStart => exact ⟨0, Nat.zero_le _, rfl, Below.refl _ _, by simp⟩
  case round =>
    obtain ⟨k, hk, rfl, hb, hall⟩ := hrel
    have HA := Lib.hid hall
    clear hall
    by_cases hlt : k < n
    · obtain ⟨g, rfl, hg, hcell, hsz⟩ := HC.out k (by rw [HN.out]; exact hlt)
      have hcell2 := (hb.cell (p := ⟨g, k, none⟩) hg).trans hcell
      have hsucc := Lib.hid (allS_succ ss vS k (by rw [HN.out]; exact hlt))
      have hfalse := Lib.hid (allS_false ss vS k (by rw [HN.out]; exact hlt))
      obtain ⟨s, hs⟩ : ∃ s, ss.getD k ByteArray.empty = s := ⟨_, rfl⟩
      rw [hs] at hcell2 hsucc hfalse hsz
      have c1 := Tryd.utf8_ValidString s wr (by unfold maxLen at hsz; omega) (Utf8Tabs_below HT.out hb)
      have c2 := fun W => allValid s W hsz
      have hv : vS s = (validD s.data.toList && (runes s.data.toList).all xmlN) := rfl
      obtain ⟨V, hV⟩ : ∃ V, validD s.data.toList = V := ⟨_, rfl⟩
      obtain ⟨X, hX⟩ : ∃ X, (runes s.data.toList).all xmlN = X := ⟨_, rfl⟩
      rw [hV] at c1 hv
      rw [hX] at c2 hv
      clear hV hX hs hcell
      have C1 := Lib.hid c1
      have C2 := Lib.hid c2
      clear c1 c2
      cases V
      · have hf := Lib.hid (hfalse.out (by rw [hv]; rfl))
        clear hv hfalse hsucc C2
        go_wp2_with (go_at_call 104; refine C1.out.mono ?_; rintro e w1 ⟨rfl, hb1⟩)
        go_ret
        exact ⟨ret_bool hf.out.symm, hb.trans (hb1.mono hb.size)⟩
      · cases X
        · have hf := Lib.hid (hfalse.out (by rw [hv]; rfl))
          clear hv hfalse hsucc
          go_wp2_with (first
            | (go_at_call 104; refine C1.out.mono ?_; rintro e w1 ⟨rfl, hb1⟩)
            | (go_at_call 100; refine (C2.out _).mono ?_; rintro e w2 ⟨rfl, hb2⟩))
          go_ret
          exact ⟨ret_bool hf.out.symm, (hb.trans (hb1.mono hb.size)).trans (hb2.mono (Nat.le_trans hb.size hb1.size))⟩
        · have hf : Hid ((ss.take (k + 1)).all vS = true) := Lib.hid (by rw [hsucc.out, HA.out, hv]; rfl)
          clear hv hfalse hsucc
          go_wp2_with (first
            | (go_at_call 104; refine C1.out.mono ?_; rintro e w1 ⟨rfl, hb1⟩)
            | (go_at_call 100; refine (C2.out _).mono ?_; rintro e w2 ⟨rfl, hb2⟩))
          go_roundw
          case rel => exact ⟨k + 1, by omega, by go_num, (hb.trans (hb1.mono hb.size)).trans (hb2.mono (Nat.le_trans hb.size hb1.size)), hf.out⟩
          case measure => simp [intOf]; omega
    · obtain rfl : k = n := by omega
      have hf : Hid (ss.all vS = true) := Lib.hid (by have := HA.out; rwa [List.take_of_length_le (by rw [HN.out]; exact Nat.le_refl _)] at this)
      clear HA
      go_wp2
      go_ret
      exact ⟨ret_bool hf.out.symm, hb⟩
end Go.Proofs.YtcmlfkoeajpliaaDoor
namespace Go.Proofs.YtcmlfkoeajpliaaDoor
open Go.RowKit Go.Lib
set_option maxRecDepth 100000
theorem validX_of {l : List UInt8} (h : validX l = false) : nameX l = false := by unfold nameX; rw [h]; rfl
theorem nameX_nil : nameX [] = false := by unfold nameX nameB; rw [runes_nil]; simp
theorem nameX_of {l : List UInt8} (hv : validX l = true) (hne : l ≠ []) : nameX l = allQ okB 0 (runes l) := by
  unfold nameX; rw [hv, allQ_nameB]
  · rfl
  · rw [runes_step l hne]; simp
theorem one_str (w : World) (s : ByteArray) (hs : s.size ≤ maxLen) : strsAt (w.alloc (.cells #[.string s] 9)) (some ⟨w.heap.size, 0, none⟩) [s] := by
  intro k hk
  have : k = 0 := by simp at hk; omega
  subst this
  exact ⟨w.heap.size, rfl, by simp, by simp, hs⟩
set_option maxHeartbeats 1000000 in
theorem name_any (s : ByteArray) (w : World) (hs : s.size ≤ maxLen) (hT : tabs w) : Calls Tryd.prog 77 #[.string s] w fun e w' => e = .returned (.bool (nameX s.data.toList)) ∧ Below w.heap.size w w' := by
  by_cases h0 : s.data.toList = []
  · have E := Lib.hid h0
    have h1 : s.toList = [] := by rw [ByteArray.toList_eq]; exact h0
    clear h0
    go_enter Tryd.func77, Tryd.ntmps77
    go_wp2
    go_ret
    exact ⟨ret_bool (by rw [E.out, nameX_nil]), Below.refl _ _⟩
  · have h1 : ¬ s.toList = [] := by rw [ByteArray.toList_eq]; exact h0
    have h2 : (!s.toList.isEmpty) = true := by simpa using h1
    have h3 : s.toList.isEmpty = false := by simpa using h1
    have cV := valid_any (some ⟨w.heap.size, 0, none⟩) 1 1 [s] (w.alloc (.cells #[.string s] 9)) rfl (by omega) (Utf8Tabs_below hT ((Below.refl _ _).alloc (Nat.le_refl _) _)) (one_str w s hs)
    have cA := fun W => allName s W hs
    have hvs : [s].all vS = validX s.data.toList := by simp [vS]
    rw [hvs] at cV
    clear hvs
    have hba : Below w.heap.size w (w.alloc (.cells #[.string s] 9)) := (Below.refl _ _).alloc (Nat.le_refl _) _
    obtain ⟨X, hX⟩ : ∃ X, validX s.data.toList = X := ⟨_, rfl⟩
    rw [hX] at cV
    have CV := Lib.hid cV
    have CA := Lib.hid cA
    clear cV cA
    have E0 := Lib.hid h0
    clear h0
    cases X
    · have E := Lib.hid (validX_of hX)
      clear hX
      go_enter Tryd.func77, Tryd.ntmps77
      go_wp2_with (go_at_call 79; refine CV.out.mono ?_; rintro e w1 ⟨rfl, hb1⟩)
      go_ret
      exact ⟨ret_bool E.out.symm, hba.trans (hb1.mono hba.size)⟩
    · have E := Lib.hid (nameX_of hX E0.out)
      clear hX
      go_enter Tryd.func77, Tryd.ntmps77
      go_wp2_with (first
        | (go_at_call 79; refine CV.out.mono ?_; rintro e w1 ⟨rfl, hb1⟩)
        | (go_at_call 100; refine (CA.out _).mono ?_; rintro e w2 ⟨rfl, hb2⟩))
      go_ret
      exact ⟨ret_bool E.out.symm, (hba.trans (hb1.mono hba.size)).trans (hb2.mono (Nat.le_trans hba.size hb1.size))⟩
end Go.Proofs.YtcmlfkoeajpliaaDoor
