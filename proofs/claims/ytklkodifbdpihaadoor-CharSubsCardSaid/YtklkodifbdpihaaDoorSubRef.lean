/- The reference cuts parts out of valid texts. No condition beyond what the theorems state. -/
import Derived.Test.YtklkodifbdpihaaDoorOne
import Derived.Test.YtklkodifbdpihaaDoorSub
import Derived.Test.YtklkodifbdpihaaDoorValidRef
namespace Go.Proofs.YtklkodifbdpihaaDoor
open Go.RowKit Go.Lib
set_option maxRecDepth 100000
def selP (fr co : Int) (i : Nat) : Prop := fr ≤ i ∧ 0 < co ∧ ((0 ≤ fr ∧ (i : Int) - fr < co) ∨ (fr < 0 ∧ -co ≤ fr ∧ (i : Int) < fr + co))
instance (fr co : Int) (i : Nat) : Decidable (selP fr co i) := by unfold selP; infer_instance
def selGo (xs : List Nat) (p : Nat → Prop) [DecidablePred p] : Nat → List Nat
  | 0 => []
  | k + 1 => selGo xs p k ++ (if p k then [xs.getD k 0] else [])
theorem selGo_none (xs : List Nat) (p : Nat → Prop) [DecidablePred p] (h : ∀ i, ¬ p i) : ∀ k, selGo xs p k = []
  | 0 => rfl
  | k + 1 => by rw [selGo, selGo_none xs p h k, if_neg (h k)]; rfl
theorem selGo_span (xs : List Nat) (p : Nat → Prop) [DecidablePred p] (a b : Nat) (h : ∀ i, p i ↔ a ≤ i ∧ i < b) : ∀ k, k ≤ xs.length → selGo xs p k = (xs.take (min k b)).drop a
  | 0, _ => by simp [selGo]
  | k + 1, hk => by
    rw [selGo, selGo_span xs p a b h k (by omega)]
    by_cases c : k < b
    · rw [Nat.min_eq_left (by omega), Nat.min_eq_left (by omega), List.take_succ_eq_append_getElem (by omega), List.getD_eq_getElem?_getD, List.getElem?_eq_getElem (by omega)]
      by_cases d : a ≤ k
      · rw [if_pos ((h k).2 ⟨d, c⟩), List.drop_append_of_le_length (by rw [List.length_take]; omega)]
        rfl
      · rw [if_neg (fun hp => d ((h k).1 hp).1), List.drop_eq_nil_of_le (by rw [List.length_take]; omega), List.drop_eq_nil_of_le (by simp; omega)]
        rfl
    · rw [if_neg (fun hp => c ((h k).1 hp).2), Nat.min_eq_right (by omega), Nat.min_eq_right (by omega)]
      simp
theorem sel_sub (l : List UInt8) (fr co : Int) : fl (selGo (runes l) (selP fr co) (runes l).length) = subS l fr co := by
  unfold subS
  by_cases h1 : co < 1
  · rw [if_pos h1, selGo_none _ _ (fun i h => by unfold selP at h; omega)]; rfl
  · rw [if_neg h1]
    by_cases h2 : fr < 0
    · rw [if_pos h2]
      unfold subL
      by_cases h3 : co + fr ≤ 0
      · rw [if_pos h3, selGo_none _ _ (fun i h => by unfold selP at h; omega)]; rfl
      · rw [if_neg h3, selGo_span _ _ 0 (co + fr).toNat (fun i => by unfold selP; omega) _ (Nat.le_refl _)]
        rw [List.drop_zero, List.drop_zero]
        congr 1
        rcases Nat.le_total (runes l).length (co + fr).toNat with h | h
        · rw [Nat.min_eq_left h, List.take_of_length_le (Nat.le_refl _), List.take_of_length_le h]
        · rw [Nat.min_eq_right h]
    · rw [if_neg h2]
      unfold subL
      rw [if_neg (by omega), selGo_span _ _ fr.toNat (fr.toNat + co.toNat) (fun i => by unfold selP; omega) _ (Nat.le_refl _)]
      congr 1
      rcases Nat.le_total (runes l).length (fr.toNat + co.toNat) with h | h
      · rw [Nat.min_eq_left h, List.take_of_length_le (Nat.le_refl _), List.take_of_length_le (by rw [List.length_drop]; omega)]
      · rw [Nat.min_eq_right h, List.drop_take, show fr.toNat + co.toNat - fr.toNat = co.toNat from by omega]
theorem enc_length (r : Nat) (h : runeOk r) : (enc r).length ≤ 4 := by
  rw [encZ r h]; split
  · simp
  · split
    · simp
    · split <;> simp
theorem size_le_of {o : ByteArray} {l : List UInt8} (h : o.data.toList = l) {m : Nat} (hl : l.length ≤ m) : o.size ≤ m := by
  have e : o.data.toList.length = o.size := by simp
  rw [h] at e
  omega
def subRel (w1 : World) (xs : List Nat) (fr co : Int) (n : Nat) (so si : Value) (wx : World) : Prop :=
  ∃ (k : Nat) (o : ByteArray), k ≤ n ∧ si = .int .i64 k ∧ so = .string o ∧ o.size ≤ 4 * k ∧ Below w1.heap.size w1 wx ∧ Hid (o.data.toList = fl (selGo xs (selP fr co) k))
set_option maxHeartbeats 4000000 in
theorem sub_ref (s : ByteArray) (fr co : Int) (w : World) (hs : s.size ≤ 1099511627776) (f1 : -9223372036854775808 ≤ fr) (f2 : fr ≤ 9223372036854775807) (c1 : -9223372036854775808 ≤ co) (c2 : co ≤ 9223372036854775807)
    (hv : validD s.data.toList = true) : Calls Tryd.prog 22 #[.string s, .int .i64 fr, .int .i64 co] w (strPost w.heap.size w (subS s.data.toList fr co)) := by
  have cP := points_ref s w hs
  rw [← sel_sub]
  have hrl := runes_le s.data.toList
  have hz : s.data.toList.length = s.size := by simp
  have hok := runes_ok _ s.data.toList (Nat.le_refl _) hv
  have HV := Lib.hid hv
  clear hv
  unfold ptsOut at cP
  rw [hz] at hrl
  obtain ⟨xs, hxs⟩ : ∃ xs, runes s.data.toList = xs := ⟨_, rfl⟩
  rw [hxs] at cP hrl hok ⊢
  clear hxs hz
  have C := Lib.hid cP
  have HO := Lib.hid hok
  clear cP hok
  go_enter Tryd.func22, Tryd.ntmps22
  go_wp2_with fail
  refine C.out.mono ?_
  clear C
  rintro e w1 h1
  obtain ⟨v, rfl, hown, b1⟩ : ∃ v, e = .returned (.tuple #[v, .bool true]) ∧ w1.ownsRow w.heap.size 3 1 v xs.length (cellsI xs) ∧ Below w.heap.size w w1 := by
    rcases h1 with ⟨_, h⟩ | ⟨h, _⟩
    · exact h
    · rw [HV.out] at h; cases h
  have hlt1 := fun g hg => (hown.lt g hg).2
  obtain ⟨A, cap, rfl, hxl, hrd⟩ := own_read hown
  have hrd2 : ∀ k, k < xs.length → ∃ g, A = some ⟨g, 0, none⟩ ∧ g < w1.heap.size ∧ w1.cell? ⟨g, k, none⟩ = some (.int .i64 ((xs.getD k 0 : Nat) : Int)) := fun k hk => by
    obtain ⟨g, e, hc⟩ := hrd k hk
    subst e
    exact ⟨g, rfl, hlt1 g rfl, hc⟩
  obtain ⟨n, hn⟩ : ∃ n, xs.length = n := ⟨_, rfl⟩
  rw [hn] at hrd2 hrl ⊢
  have RD := Lib.hid hrd2
  have HN := Lib.hid hn
  clear hrd2 hrd hown hxl h1 hn hlt1 HV
  go_wp2
  go_loopw [9, 10] (fun so si wx => subRel w1 xs fr co n so si wx) (fun _ si _ => n - (intOf si).toNat)
  case atStart => exact ⟨0, _, Nat.zero_le _, rfl, rfl, Nat.le_refl _, Below.refl _ _, Lib.hid rfl⟩
  case round =>
    obtain ⟨k, o, hk, rfl, rfl, hos, hb, ho⟩ := hrel
    by_cases hlt : k < n
    · obtain ⟨g, rfl, hg, hc⟩ := RD.out k hlt
      have hc2 := (hb.cell (p := ⟨g, k, none⟩) hg).trans hc
      have hxk : runeOk (xs.getD k 0) := by
        refine HO.out _ ?_
        rw [List.getD_eq_getElem?_getD, List.getElem?_eq_getElem (by rw [HN.out]; exact hlt)]
        exact List.getElem_mem _
      have hel := enc_length _ hxk
      have cO := one_any _ hxk wr
      have hstep : selGo xs (selP fr co) (k + 1) = selGo xs (selP fr co) k ++ (if selP fr co k then [xs.getD k 0] else []) := rfl
      have HY : Hid (selP fr co k → ∀ o2 : ByteArray, o2.data.toList = enc (xs.getD k 0) → (o ++ o2).data.toList = fl (selGo xs (selP fr co) (k + 1))) := Lib.hid fun hp o2 h2 => by
        rw [hstep, if_pos hp, fl_append, append_list, ho.out, h2]; simp [fl]
      have HN2 : Hid (¬ selP fr co k → o.data.toList = fl (selGo xs (selP fr co) (k + 1))) := Lib.hid fun hp => by
        rw [hstep, if_neg hp, ho.out]; simp
      obtain ⟨x, hx⟩ : ∃ x, xs.getD k 0 = x := ⟨_, rfl⟩
      rw [hx] at hc2 hel cO HY
      have CO := Lib.hid cO
      have HL := Lib.hid hel
      have HB := Lib.hid hb
      clear hstep hx cO hxk hc ho hel
      rcases (by omega : co ≤ 0 ∨ (0 < co ∧ 0 ≤ fr) ∨ (0 < co ∧ fr < 0)) with q | ⟨q1, q2⟩ | ⟨q1, q2⟩
      all_goals
        go_wp2_with (go_at_call 43; refine CO.out.mono ?_; rintro e w2 ⟨o2, rfl, h2, b2⟩; have hz2 := size_le_of h2 HL.out)
        all_goals first
          | (go_roundw
             case rel => exact ⟨k + 1, _, by omega, by go_num, rfl, by omega, HB.out, Lib.hid (HN2.out (by unfold selP; omega))⟩
             case measure => simp [intOf]; omega)
          | (go_roundw
             case rel => exact ⟨k + 1, _, by omega, by go_num, rfl, by rw [ByteArray.size_append]; omega, HB.out.trans (b2.mono HB.out.size), Lib.hid (HY.out (by unfold selP; omega) o2 h2)⟩
             case measure => simp [intOf]; omega)
    · obtain rfl : k = n := by omega
      go_wp2
      go_ret
      exact ⟨o, rfl, by rw [ho.out, HN.out], b1.trans (hb.mono b1.size)⟩
end Go.Proofs.YtklkodifbdpihaaDoor
