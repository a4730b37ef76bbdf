/- The reference tells names. No condition beyond what the theorems state. -/
import Derived.Test.YtklkodifbdpihaaDoorValidRef
namespace Go.Proofs.YtklkodifbdpihaaDoor
open Go.RowKit Go.Lib
set_option maxRecDepth 100000
def okP (k x : Nat) : Prop := letterP (x : Int) ∨ (0 < k ∧ followP (x : Int))
instance (k x : Nat) : Decidable (okP k x) := by unfold okP; infer_instance
def nameP (xs : List Nat) : Prop := xs ≠ [] ∧ ∀ k, k < xs.length → okP k (xs.getD k 0)
def nameB (xs : List Nat) : Bool := !xs.isEmpty && (List.range xs.length).all fun k => decide (okP k (xs.getD k 0))
theorem nameB_true {xs : List Nat} (hne : xs ≠ []) (h : ∀ k, k < xs.length → okP k (xs.getD k 0)) : nameB xs = true := by
  unfold nameB
  simp [hne]
  intro k hk
  have := h k hk
  simpa [List.getD_eq_getElem?_getD] using this
theorem nameB_false {xs : List Nat} (k : Nat) (hk : k < xs.length) (h : ¬ okP k (xs.getD k 0)) : nameB xs = false := by
  unfold nameB
  rw [Bool.and_eq_false_iff]
  right
  rw [List.all_eq_false]
  exact ⟨k, List.mem_range.2 hk, by simpa using h⟩
def nameX (l : List UInt8) : Bool := validX l && nameB (runes l)

set_option maxHeartbeats 2000000 in
theorem name_ref (s : ByteArray) (w : World) (hs : s.size ≤ 1099511627776) : Calls Tryd.prog 12 #[.string s] w fun e w' => e = .returned (.bool (nameX s.data.toList)) ∧ Below w.heap.size w w' := by
  have cP := points_ref s w hs
  have cV := fun W => valid_ref s W hs
  obtain ⟨l, hl⟩ : ∃ l, s.data.toList = l := ⟨_, rfl⟩
  rw [hl] at cP cV ⊢
  have hsz : l.length = s.size := by rw [← hl]; simp
  have hrl := runes_le l
  clear hl
  unfold nameX
  unfold ptsOut at cP
  obtain ⟨X, hX⟩ : ∃ X, validX l = X := ⟨_, rfl⟩
  have hXv : X = true → validD l = true := by rw [← hX]; unfold validX; intro h; exact (Bool.and_eq_true_iff.1 h).1
  rw [hX] at cV ⊢
  obtain ⟨xs, hxs⟩ : ∃ xs, runes l = xs := ⟨_, rfl⟩
  rw [hxs] at cP hrl ⊢
  rw [hsz] at hrl
  clear hxs hsz hX
  have H := Lib.hid cP
  have HV := Lib.hid cV
  have HX := Lib.hid hXv
  clear cP cV hXv
  go_enter Tryd.func12, Tryd.ntmps12
  go_wp2_with fail
  refine H.out.mono ?_
  clear H
  rintro e w1 h1
  have h2 : ∃ (A : Option Addr) (n cap : Nat) (V : Bool), e = .returned (.tuple #[.slice A n cap, .bool V]) ∧ Below w.heap.size w w1 ∧ n ≤ s.size ∧
      (X = true → n = xs.length ∧ ∀ k, k < n → ∃ g, A = some ⟨g, 0, none⟩ ∧ g < w1.heap.size ∧ w1.cell? ⟨g, k, none⟩ = some (.int .i64 ((xs.getD k 0 : Nat) : Int))) := by
    rcases h1 with ⟨hv, v, rfl, hown, hb⟩ | ⟨hv, rfl, hb⟩
    · obtain ⟨A, cap, rfl, hxl, hrd⟩ := own_read hown
      refine ⟨A, _, cap, true, rfl, hb, hrl, fun _ => ⟨rfl, fun k hk => ?_⟩⟩
      obtain ⟨g, rfl, hc⟩ := hrd k hk
      exact ⟨g, rfl, (hown.lt g rfl).2, hc⟩
    · exact ⟨none, 0, 0, false, rfl, hb, by omega, fun h => by rw [HX.out h] at hv; cases hv⟩
  clear h1
  obtain ⟨A, n, cap, V, rfl, hb, hns, hrd⟩ := h2
  have RD := Lib.hid hrd
  clear hrd
  cases X
  · go_wp2_with fail
    refine (HV.out _).mono ?_
    rintro e w2 ⟨rfl, hb2⟩
    go_wp2
    go_ret
    exact ⟨rfl, hb.trans (hb2.mono hb.size)⟩
  · obtain ⟨hn, hrd⟩ := RD.out rfl
    clear RD
    have HN := Lib.hid hn
    clear hn
    have RD := Lib.hid hrd
    clear hrd
    go_wp2_with fail
    refine (HV.out _).mono ?_
    clear HV
    rintro e w2 ⟨rfl, hb2⟩
    by_cases hn0 : n = 0
    · subst hn0
      go_wp2
      go_ret
      refine ⟨ret_bool ?_, hb.trans (hb2.mono hb.size)⟩
      have : xs = [] := List.eq_nil_of_length_eq_zero HN.out.symm
      rw [this]; rfl
    · have hnz : ((n : Int) == 0) = false := by simp; omega
      go_wp2
      go_loop [5] (fun i => ∃ k : Nat, k ≤ n ∧ i = .int .i64 k ∧ Hid (∀ j, j < k → okP j (xs.getD j 0))) (fun i => n - (intOf i).toNat)
      case atStart => exact ⟨0, Nat.zero_le _, rfl, Lib.hid fun j hj => absurd hj (by omega)⟩
      case round =>
        obtain ⟨k, hk, rfl, hok⟩ := hrel
        by_cases hlt : k < n
        · obtain ⟨g, rfl, hg, hc⟩ := RD.out k hlt
          have hc2 := (hb2.cell (p := ⟨g, k, none⟩) hg).trans hc
          have hts : Hid (okP k (xs.getD k 0) → ∀ j, j < k + 1 → okP j (xs.getD j 0)) := Lib.hid fun h j hj => by
            by_cases e : j = k
            · subst e; exact h
            · exact hok.out j (by omega)
          have hfs : Hid (¬ okP k (xs.getD k 0) → nameB xs = false) := Lib.hid fun h => nameB_false k (by rw [← HN.out]; exact hlt) h
          obtain ⟨x, hx⟩ : ∃ x, xs.getD k 0 = x := ⟨_, rfl⟩
          rw [hx] at hc2 hts hfs
          clear hx hc hok
          rcases Nat.eq_zero_or_pos k with rfl | hk0
          · go_wp2
            all_goals first
              | (go_round
                 case rel => exact ⟨1, by omega, rfl, Lib.hid (hts.out (by go_light; clear hts hfs; simp only [Bool.not_eq_false', beq_iff_eq, beq_eq_false_iff_ne, ne_eq, decide_eq_true_eq] at *; unfold okP letterP followP; omega))⟩
                 case measure => simp [intOf]; omega)
              | (go_ret
                 exact ⟨ret_bool (hfs.out (by go_light; clear hts hfs; simp only [Bool.not_eq_true', beq_eq_false_iff_ne, ne_eq, decide_eq_false_iff_not] at *; unfold okP letterP followP; omega)).symm, hb.trans (hb2.mono hb.size)⟩)
          · have hkz : ((k : Int) == 0) = false := by simp; omega
            go_wp2
            all_goals first
              | (go_round
                 case rel => exact ⟨k + 1, by omega, by go_num, Lib.hid (hts.out (by go_light; clear hts hfs; simp only [Bool.not_eq_false', beq_iff_eq, beq_eq_false_iff_ne, ne_eq, decide_eq_true_eq] at *; unfold okP letterP followP; omega))⟩
                 case measure => simp [intOf]; omega)
              | (go_ret
                 exact ⟨ret_bool (hfs.out (by go_light; clear hts hfs; simp only [Bool.not_eq_true', beq_eq_false_iff_ne, ne_eq, decide_eq_false_iff_not] at *; unfold okP letterP followP; omega)).symm, hb.trans (hb2.mono hb.size)⟩)
        · obtain rfl : k = n := by omega
          go_wp2
          go_ret
          refine ⟨ret_bool ?_, hb.trans (hb2.mono hb.size)⟩
          have hne : xs ≠ [] := by intro h; have := HN.out; rw [h] at this; simp at this; omega
          rw [nameB_true hne (fun j hj => hok.out j (by rw [HN.out]; exact hj))]
end Go.Proofs.YtklkodifbdpihaaDoor
