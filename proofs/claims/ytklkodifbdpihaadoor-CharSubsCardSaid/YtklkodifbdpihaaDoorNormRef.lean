/- The reference makes rows of spaces one blank. No condition beyond what the theorems state. -/
import Derived.Test.YtklkodifbdpihaaDoorTrimRef
namespace Go.Proofs.YtklkodifbdpihaaDoor
open Go.RowKit Go.Lib
set_option maxRecDepth 100000
def colGo : Bool → List UInt8 → List UInt8
  | _, [] => []
  | prev, b :: t => if spN b = true then (if prev = true then colGo true t else 32 :: colGo true t) else b :: colGo false t
def normB (l : List UInt8) : List UInt8 := colGo true (trimB l)
theorem colGo_at (prev : Bool) (l : List UInt8) (k : Nat) (hk : k < l.length) : colGo prev (l.drop k) =
    if spN (l.getD k 0) = true then (if prev = true then colGo true (l.drop (k + 1)) else 32 :: colGo true (l.drop (k + 1))) else l.getD k 0 :: colGo false (l.drop (k + 1)) := by
  rw [List.drop_eq_getElem_cons hk, colGo, List.getD_eq_getElem?_getD, List.getElem?_eq_getElem hk]
  rfl
theorem trimB_ends (l : List UInt8) : trimB l = [] ∨ spN ((trimB l).getD 0 0) = false := by
  unfold trimB
  obtain ⟨a, ha⟩ : ∃ a, l.dropWhile spN = a := ⟨_, rfl⟩
  have hh : a = [] ∨ spN (a.getD 0 0) = false := by
    rw [← ha]
    cases h : l.dropWhile spN with
    | nil => exact .inl rfl
    | cons x t =>
      right
      have := List.head_dropWhile_not spN (l := l) (by rw [h]; simp)
      simp only [h] at this
      simpa using this
  rw [ha]
  obtain ⟨b, hb⟩ : ∃ b, a.reverse.dropWhile spN = b := ⟨_, rfl⟩
  rw [hb]
  by_cases hn : b = []
  · left; simp [hn]
  · right
    have hne : a ≠ [] := by rintro rfl; simp at hb; exact hn hb
    -- b is a suffix of a.reverse, so b.reverse is a prefix of a
    have hsuf : b <:+ a.reverse := by rw [← hb]; exact List.dropWhile_suffix _
    have hpre : b.reverse <+: a := by have := List.reverse_prefix.2 hsuf; simpa using this
    obtain ⟨c, hc⟩ := hpre
    have hbl : 0 < b.reverse.length := by simp [List.length_pos_iff, hn]
    have h1 := hh.resolve_left hne
    rw [← hc] at h1
    rw [List.getD_eq_getElem?_getD, List.getElem?_append_left hbl] at h1
    rwa [List.getD_eq_getElem?_getD]
def normPost (s : ByteArray) (w : World) (e : Ending) (w' : World) : Prop := ∃ o : ByteArray, e = .returned (.string o) ∧ o.data.toList = normB s.data.toList ∧ w = w'
theorem extract_one (s : ByteArray) (k : Nat) (hk : k < s.size) : (s.extract k (k + 1)).data.toList = [s.data.toList.getD k 0] := by
  have h' : k < s.data.toList.length := by simpa using hk
  rw [extract_list, List.drop_take, List.drop_eq_getElem_cons h', show k + 1 - k = 1 from by omega, List.getD_eq_getElem?_getD, List.getElem?_eq_getElem h']
  rfl
theorem append_list (a b : ByteArray) : (a ++ b).data.toList = a.data.toList ++ b.data.toList := by simp [ByteArray.data_append]

def normRel (s t : ByteArray) (so si : Value) : Prop := ∃ (k : Nat) (o : ByteArray) (pb : Bool), k ≤ t.size ∧ si = .int .i64 k ∧ so = .string o ∧ o.size ≤ k ∧ (k = 0 ∨ pb = spAt t (k - 1)) ∧ Hid (normB s.data.toList = o.data.toList ++ colGo pb (t.data.toList.drop k))
set_option maxHeartbeats 1000000 in
theorem normal_ref (s : ByteArray) (w : World) (hs : s.size ≤ 1099511627776) : Calls Tryd.prog 16 #[.string s] w (normPost s w) := by
  have cT := Lib.hid (trim_ref s w hs)
  go_enter Tryd.func16, Tryd.ntmps16
  go_wp2_with fail
  refine cT.out.mono ?_
  clear cT
  rintro e w' ⟨i, j, hij, hj, rfl, ht, rfl⟩
  have hts : (s.extract i j).size ≤ s.size := by simp; omega
  have hends := trimB_ends s.data.toList
  obtain ⟨t, hte⟩ : ∃ t, s.extract i j = t := ⟨_, rfl⟩
  rw [hte] at ht hts ⊢
  rw [← ht] at hends
  have E : Hid (normB s.data.toList = colGo true t.data.toList) := Lib.hid (by unfold normB; rw [ht])
  clear ht hte hij hj
  have hsz : t.data.toList.length = t.size := by simp
  have h0 : 0 < t.size → spAt t 0 = false := by
    intro h
    rcases hends with h' | h'
    · rw [h'] at hsz; simp at hsz; omega
    · exact h'
  have H0 := Lib.hid h0
  have HZ := Lib.hid hsz
  clear h0 hends hsz
  go_wp2
  go_loop [3, 4] (fun so si => normRel s t so si) (fun _ i => t.size - (intOf i).toNat)
  case atStart => exact ⟨0, _, true, Nat.zero_le _, rfl, rfl, Nat.le_refl _, .inl rfl, Lib.hid (by rw [E.out]; simp)⟩
  case round =>
    obtain ⟨k, o, pb, hk, rfl, rfl, hos, hpb, hr⟩ := hrel
    by_cases hlt : k < t.size
    · have hstep := colGo_at pb t.data.toList k (by rw [HZ.out]; exact hlt)
      cases hb : spAt t k
      · have hr2 : Hid (normB s.data.toList = (o ++ t.extract k (k + 1)).data.toList ++ colGo false (t.data.toList.drop (k + 1))) := Lib.hid (by
          rw [hr.out, hstep, if_neg (by rw [show spN (t.data.toList.getD k 0) = spAt t k from rfl, hb]; simp), append_list, extract_one t k hlt]; simp)
        have H := Lib.hid (space_at t k hlt false hb)
        have hb' := Lib.hid hb
        clear hstep hb hr hpb
        go_wp2_with (go_at_call 36; refine (H.out _).mono ?_; rintro e w' ⟨rfl, rfl⟩)
        go_round
        case rel => exact ⟨k + 1, _, false, by omega, by go_num, rfl, by first | omega | (simp [ByteArray.size_append]; omega) | (rw [ByteArray.size_append, show (⟨#[32]⟩ : ByteArray).size = 1 from rfl]; omega), .inr (by rw [show k + 1 - 1 = k from by omega]; exact hb'.out.symm), hr2⟩
        case measure => simp [intOf]; omega
      · have hk0 : k ≠ 0 := by
          rintro rfl
          have := H0.out hlt
          rw [this] at hb; cases hb
        obtain ⟨m, rfl⟩ : ∃ m, k = m + 1 := ⟨k - 1, by omega⟩
        have hpb' : pb = spAt t m := by rcases hpb with h | h; omega; simpa using h
        have hm : m < t.size := by omega
        have H := Lib.hid (space_at t (m + 1) hlt true hb)
        have hb' := Lib.hid hb
        cases hc : spAt t m
        · have hr2 : Hid (normB s.data.toList = (o ++ ⟨#[32]⟩).data.toList ++ colGo true (t.data.toList.drop (m + 1 + 1))) := Lib.hid (by
            rw [hr.out, hstep, if_pos (show spN (t.data.toList.getD (m + 1) 0) = true from hb), if_neg (by rw [hpb', hc]; simp), append_list]; simp)
          have H2 := Lib.hid (space_at t m hm false hc)
          clear hstep hb hr hpb hpb' hc hk0
          go_wp2_with (go_at_call 36; first | ((with_reducible refine (H.out _).mono ?_); rintro e w' ⟨rfl, rfl⟩) | ((with_reducible refine (H2.out _).mono ?_); rintro e w' ⟨rfl, rfl⟩))
          go_round
          case rel => exact ⟨m + 1 + 1, _, true, by omega, by go_num, rfl, by first | omega | (simp [ByteArray.size_append]; omega) | (rw [ByteArray.size_append, show (⟨#[32]⟩ : ByteArray).size = 1 from rfl]; omega), .inr (by rw [show m + 1 + 1 - 1 = m + 1 from by omega]; exact hb'.out.symm), hr2⟩
          case measure => simp [intOf]; omega
        · have hr2 : Hid (normB s.data.toList = o.data.toList ++ colGo true (t.data.toList.drop (m + 1 + 1))) := Lib.hid (by
            rw [hr.out, hstep, if_pos (show spN (t.data.toList.getD (m + 1) 0) = true from hb), if_pos (by rw [hpb', hc])])
          have H2 := Lib.hid (space_at t m hm true hc)
          clear hstep hb hr hpb hpb' hc hk0
          go_wp2_with (go_at_call 36; first | ((with_reducible refine (H.out _).mono ?_); rintro e w' ⟨rfl, rfl⟩) | ((with_reducible refine (H2.out _).mono ?_); rintro e w' ⟨rfl, rfl⟩))
          go_round
          case rel => exact ⟨m + 1 + 1, _, true, by omega, by go_num, rfl, by first | omega | (simp [ByteArray.size_append]; omega) | (rw [ByteArray.size_append, show (⟨#[32]⟩ : ByteArray).size = 1 from rfl]; omega), .inr (by rw [show m + 1 + 1 - 1 = m + 1 from by omega]; exact hb'.out.symm), hr2⟩
          case measure => simp [intOf]; omega
    · obtain rfl : k = t.size := by omega
      have fin : Hid (o.data.toList = normB s.data.toList) := Lib.hid (by rw [hr.out, List.drop_eq_nil_of_le (by rw [HZ.out]; omega), colGo]; simp)
      clear hr hpb
      go_wp2
      go_ret
      exact ⟨o, rfl, fin.out, rfl⟩
end Go.Proofs.YtklkodifbdpihaaDoor
