/- What is written of a valid text is valid; the tree that is wanted. No condition beyond what the theorems state. -/
import Derived.Test.YtpdaldpaceolnaaGreatDoorTextsA
import Derived.Test.YtpdaldpaceolnaaGreatDoorSame
import Derived.Test.YtpdaldpaceolnaaGreatDoorTrees
import Derived.Test.YtpdaldpaceolnaaGreatDoorValid
namespace Go.Proofs.YtpdaldpaceolnaaGreatDoor
open Go.RowKit Go.Lib
set_option maxRecDepth 100000
set_option maxHeartbeats 4000000
theorem flat_same (F : UInt8 → List UInt8) : ∀ u : List UInt8, (∀ x ∈ u, F x = [x]) → u.flatMap F = u
  | [], _ => rfl
  | b :: u, h => by rw [List.flatMap_cons, h b (.head _), flat_same F u fun x hx => h x (.tail _ hx)]; rfl
theorem wr_valid (F : UInt8 → List UInt8) (hlow : ∀ b : UInt8, b.toNat < 128 → xmlN b.toNat = true → validX (F b) = true) (hhigh : ∀ b : UInt8, 128 ≤ b.toNat → F b = [b]) : ∀ (k : Nat) (l : List UInt8), l.length ≤ k → validX l = true → validX (l.flatMap F) = true
  | 0, l, hk, _ => by
    have : l = [] := List.length_eq_zero_iff.1 (by omega)
    rw [this]
    exact validX_nil
  | k + 1, l, hk, hv => by
    by_cases hne : l = []
    · rw [hne]; exact validX_nil
    · obtain ⟨r, hr, hx, e, _, hv2⟩ := vx_cut l hne hv
      have hp := enc_pos r hr
      have hn := List.length_pos_iff.2 hne
      rw [e, List.flatMap_append]
      refine vx_app ?_ (wr_valid F hlow hhigh k _ (by rw [List.length_drop]; omega) hv2)
      by_cases h127 : 127 < r
      · rw [flat_same F _ fun x hx => hhigh x (enc_high r hr h127 x hx)]
        exact validX_enc r hr hx
      · rw [encZ r hr, if_pos (by omega)]
        have : (r.toUInt8).toNat = r := by
          show (UInt8.ofNat r).toNat = r
          rw [UInt8.toNat_ofNat']
          omega
        rw [List.flatMap_cons, List.flatMap_nil, List.append_nil]
        exact hlow _ (by omega) (by rw [this]; exact hx)
theorem wrT_low (b : UInt8) (h : b.toNat < 128) (hx : xmlN b.toNat = true) : validX (wrT b) = true := by
  unfold wrT
  split
  · kernel_rfl
  split
  · kernel_rfl
  split
  · kernel_rfl
  split
  · kernel_rfl
  exact validX_byte b h hx
theorem wrV_low (b : UInt8) (h : b.toNat < 128) (hx : xmlN b.toNat = true) : validX (wrV b) = true := by
  unfold wrV
  split
  · kernel_rfl
  split
  · kernel_rfl
  split
  · kernel_rfl
  exact wrT_low b h hx
theorem wrT_high (b : UInt8) (h : 128 ≤ b.toNat) : wrT b = [b] := by
  have ne : ∀ c : UInt8, c.toNat < 128 → ¬ b = c := fun c hc e => by rw [e] at h; omega
  unfold wrT
  rw [if_neg (ne 38 (by decide)), if_neg (ne 60 (by decide)), if_neg (ne 62 (by decide)), if_neg (ne 13 (by decide))]
theorem wrV_high (b : UInt8) (h : 128 ≤ b.toNat) : wrV b = [b] := by
  have ne : ∀ c : UInt8, c.toNat < 128 → ¬ b = c := fun c hc e => by rw [e] at h; omega
  unfold wrV
  rw [if_neg (ne 34 (by decide)), if_neg (ne 9 (by decide)), if_neg (ne 10 (by decide)), wrT_high b h]
theorem texts_valid (nm s : List UInt8) (hn : nameX nm = true) (hs : validX s = true) : validX (textsL nm s) = true := by
  have h1 := name_isValid hn
  have hT := wr_valid wrT wrT_low wrT_high _ s (Nat.le_refl _) hs
  have hV := wr_valid wrV wrV_low wrV_high _ s (Nat.le_refl _) hs
  have e : textsL nm s = [60] ++ (nm ++ ([32] ++ (nm ++ ([32, 61, 32, 34] ++ (s.flatMap wrV ++ ([34, 62] ++ (s.flatMap wrT ++ ([60, 47] ++ (nm ++ [32, 62]))))))))) := by unfold textsL; simp
  rw [e]
  exact vx_app (by kernel_rfl) (vx_app h1 (vx_app (by kernel_rfl) (vx_app h1 (vx_app (by kernel_rfl) (vx_app hV (vx_app (by kernel_rfl) (vx_app hT (vx_app (by kernel_rfl) (vx_app h1 (by kernel_rfl))))))))))
theorem texts_ba (nm s : List UInt8) : (⟨#[60]⟩ : ByteArray) ++ ba' nm ++ ⟨#[32]⟩ ++ ba' nm ++ ⟨#[32, 61, 32, 34]⟩ ++ ba' (s.flatMap wrV) ++ ⟨#[34, 62]⟩ ++ ba' (s.flatMap wrT) ++ ⟨#[60, 47]⟩ ++ ba' nm ++ ⟨#[32, 62]⟩ = ba' (textsL nm s) := by
  show ba' [60] ++ ba' nm ++ ba' [32] ++ ba' nm ++ ba' [32, 61, 32, 34] ++ ba' (s.flatMap wrV) ++ ba' [34, 62] ++ ba' (s.flatMap wrT) ++ ba' [60, 47] ++ ba' nm ++ ba' [32, 62] = _
  simp only [ba_app]
  unfold textsL
  congr 1
  simp
theorem add_at (g j : Nat) : ((⟨g, 0, none⟩ : Addr).add j) = ⟨g, j, none⟩ := by unfold Addr.add; split <;> simp_all
/-- The tree that is wanted, where there is a text. -/
theorem want_some (t : Tr) (P : Nat → Prop) (nm s : List UInt8) (hp : t.pl = .mk 1 [] [] [] [.mk 2 nm [] [(nm, s)] [.mk 4 [] s [] []]]) (hf : t.pl.fit) (W : World) (hin : t.In P W) (hP : ∀ b, P b → b < W.heap.size) (g1 g3 g4 : Nat)
    (a0 : W.cell? ⟨g1, 0, none⟩ = some (.string (ba' nm))) (a1 : W.cell? ⟨g1, 1, none⟩ = some (.string (ba' s)))
    (b0 : W.cell? ⟨g3, 0, none⟩ = some (.int .i64 4)) (b1 : W.cell? ⟨g3, 1, none⟩ = some (.string (ba' []))) (b2 : W.cell? ⟨g3, 2, none⟩ = some (.string (ba' s))) (b3 : W.cell? ⟨g3, 3, none⟩ = some (.slice none 0 0)) (b4 : W.cell? ⟨g3, 4, none⟩ = some (.slice none 0 0))
    (c0 : W.cell? ⟨g4, 0, none⟩ = some (.int .i64 2)) (c1 : W.cell? ⟨g4, 1, none⟩ = some (.string (ba' nm))) (c2 : W.cell? ⟨g4, 2, none⟩ = some (.string (ba' []))) (c3 : W.cell? ⟨g4, 3, none⟩ = some (.slice (some ⟨g1, 0, none⟩) 1 1)) (c4 : W.cell? ⟨g4, 4, none⟩ = some (.slice (some ⟨g3, 0, none⟩) 1 1)) :
    Calls Tryz.prog 11 #[t.v, .agg #[.int .i64 1, .string (ba' []), .string (ba' []), .slice none 0 0, .slice (some ⟨g4, 0, none⟩) 1 1]] W fun e w' => e = .returned (.bool true) ∧ Below W.heap.size W w' := by
  refine same_any t (Tr.mk 1 [] [] none 0 [] (some ⟨g4, 0, none⟩) 1 [Tr.mk 2 nm [] (some ⟨g1, 0, none⟩) 1 [(nm, s)] (some ⟨g3, 0, none⟩) 1 [Tr.mk 4 [] s none 0 [] none 0 []]]) P (fun b => b < W.heap.size) W hin ?_ hP (fun _ h => h) ?_ hf
  · have z1 := World.block_lt_of_cell? W _ a0
    have z3 := World.block_lt_of_cell? W _ b0
    have z4 := World.block_lt_of_cell? W _ c0
    simp only [Tr.In, InL, and_true]
    refine ⟨⟨rfl, fun h => absurd h (by decide)⟩, ⟨rfl, fun _ => ⟨_, rfl, z4, ?_⟩⟩, ⟨rfl, fun _ => ⟨_, rfl, z1, ?_⟩⟩, ⟨rfl, fun _ => ⟨_, rfl, z3, ?_⟩⟩, ⟨rfl, fun h => absurd h (by decide)⟩, ⟨rfl, fun h => absurd h (by decide)⟩⟩
    · intro j u hu
      rw [add_at]
      match j, hu with
      | 0, hu => cases hu; exact c0
      | 1, hu => cases hu; exact c1
      | 2, hu => cases hu; exact c2
      | 3, hu => cases hu; exact c3
      | 4, hu => cases hu; exact c4
      | j + 5, hu => cases hu
    · intro j u hu
      rw [add_at]
      match j, hu with
      | 0, hu => cases hu; exact a0
      | 1, hu => cases hu; exact a1
      | j + 2, hu => cases hu
    · intro j u hu
      rw [add_at]
      match j, hu with
      | 0, hu => cases hu; exact b0
      | 1, hu => cases hu; exact b1
      | 2, hu => cases hu; exact b2
      | 3, hu => cases hu; exact b3
      | 4, hu => cases hu; exact b4
      | j + 5, hu => cases hu
  · rw [hp]; rfl
/-- The tree that is wanted, where there is none. -/
theorem want_none (t : Tr) (P : Nat → Prop) (nm : List UInt8) (hp : t.pl = .mk 1 [] [] [] [.mk 2 nm [] [(nm, [])] []]) (hf : t.pl.fit) (W : World) (hin : t.In P W) (hP : ∀ b, P b → b < W.heap.size) (g1 g4 : Nat)
    (a0 : W.cell? ⟨g1, 0, none⟩ = some (.string (ba' nm))) (a1 : W.cell? ⟨g1, 1, none⟩ = some (.string (ba' [])))
    (c0 : W.cell? ⟨g4, 0, none⟩ = some (.int .i64 2)) (c1 : W.cell? ⟨g4, 1, none⟩ = some (.string (ba' nm))) (c2 : W.cell? ⟨g4, 2, none⟩ = some (.string (ba' []))) (c3 : W.cell? ⟨g4, 3, none⟩ = some (.slice (some ⟨g1, 0, none⟩) 1 1)) (c4 : W.cell? ⟨g4, 4, none⟩ = some (.slice none 0 0)) :
    Calls Tryz.prog 11 #[t.v, .agg #[.int .i64 1, .string (ba' []), .string (ba' []), .slice none 0 0, .slice (some ⟨g4, 0, none⟩) 1 1]] W fun e w' => e = .returned (.bool true) ∧ Below W.heap.size W w' := by
  refine same_any t (Tr.mk 1 [] [] none 0 [] (some ⟨g4, 0, none⟩) 1 [Tr.mk 2 nm [] (some ⟨g1, 0, none⟩) 1 [(nm, [])] none 0 []]) P (fun b => b < W.heap.size) W hin ?_ hP (fun _ h => h) ?_ hf
  · have z1 := World.block_lt_of_cell? W _ a0
    have z4 := World.block_lt_of_cell? W _ c0
    simp only [Tr.In, InL, and_true]
    refine ⟨⟨rfl, fun h => absurd h (by decide)⟩, ⟨rfl, fun _ => ⟨_, rfl, z4, ?_⟩⟩, ⟨rfl, fun _ => ⟨_, rfl, z1, ?_⟩⟩, ⟨rfl, fun h => absurd h (by decide)⟩⟩
    · intro j u hu
      rw [add_at]
      match j, hu with
      | 0, hu => cases hu; exact c0
      | 1, hu => cases hu; exact c1
      | 2, hu => cases hu; exact c2
      | 3, hu => cases hu; exact c3
      | 4, hu => cases hu; exact c4
      | j + 5, hu => cases hu
    · intro j u hu
      rw [add_at]
      match j, hu with
      | 0, hu => cases hu; exact a0
      | 1, hu => cases hu; exact a1
      | j + 2, hu => cases hu
  · rw [hp]; rfl
end Go.Proofs.YtpdaldpaceolnaaGreatDoor
namespace Go.Proofs.YtpdaldpaceolnaaGreatDoor
open Go.RowKit Go.Lib
set_option maxRecDepth 100000
set_option maxHeartbeats 2000000 in
theorem name_ref (s : ByteArray) (w : World) (hs : s.size ≤ 1099511627776) : Calls Tryz.prog 13 #[.string s] w fun e w' => e = .returned (.bool (nameX s.data.toList)) ∧ Below w.heap.size w w' := by
  have cP := points_ref s w hs
  have cV := fun W => valid_ref s W hs
  obtain ⟨l, hl⟩ : ∃ l, s.data.toList = l := ⟨_, rfl⟩
  rw [hl] at cP cV ⊢
  have hsz : l.length = s.size := by rw [← hl]; simp
  have hrl := runes_le l
  clear hl
  unfold nameX
  unfold ptsOut at cP
  obtain ⟨X, hX⟩ : ∃ X, validX l = X := ⟨_, rfl⟩
  have hXv : X = true → validD l = true := by rw [← hX]; unfold validX; intro h; exact (Bool.and_eq_true_iff.1 h).1
  rw [hX] at cV ⊢
  obtain ⟨xs, hxs⟩ : ∃ xs, runes l = xs := ⟨_, rfl⟩
  rw [hxs] at cP hrl ⊢
  rw [hsz] at hrl
  clear hxs hsz hX
  have H := Lib.hid cP
  have HV := Lib.hid cV
  have HX := Lib.hid hXv
  clear cP cV hXv
  go_enter Tryz.func13, Tryz.ntmps13
  go_wp2_with fail
  refine H.out.mono ?_
  clear H
  rintro e w1 h1
  have h2 : ∃ (A : Option Addr) (n cap : Nat) (V : Bool), e = .returned (.tuple #[.slice A n cap, .bool V]) ∧ Below w.heap.size w w1 ∧ n ≤ s.size ∧
      (X = true → n = xs.length ∧ ∀ k, k < n → ∃ g, A = some ⟨g, 0, none⟩ ∧ g < w1.heap.size ∧ w1.cell? ⟨g, k, none⟩ = some (.int .i64 ((xs.getD k 0 : Nat) : Int))) := by
    rcases h1 with ⟨hv, v, rfl, hown, hb⟩ | ⟨hv, rfl, hb⟩
    · obtain ⟨A, cap, rfl, hxl, hrd⟩ := own_read hown
      refine ⟨A, _, cap, true, rfl, hb, hrl, fun _ => ⟨rfl, fun k hk => ?_⟩⟩
      obtain ⟨g, rfl, hc⟩ := hrd k hk
      exact ⟨g, rfl, (hown.lt g rfl).2, hc⟩
    · exact ⟨none, 0, 0, false, rfl, hb, by omega, fun h => by rw [HX.out h] at hv; cases hv⟩
  clear h1
  obtain ⟨A, n, cap, V, rfl, hb, hns, hrd⟩ := h2
  have RD := Lib.hid hrd
  clear hrd
  cases X
  · go_wp2_with fail
    refine (HV.out _).mono ?_
    rintro e w2 ⟨rfl, hb2⟩
    go_wp2
    go_ret
    exact ⟨rfl, hb.trans (hb2.mono hb.size)⟩
  · obtain ⟨hn, hrd⟩ := RD.out rfl
    clear RD
    have HN := Lib.hid hn
    clear hn
    have RD := Lib.hid hrd
    clear hrd
    go_wp2_with fail
    refine (HV.out _).mono ?_
    clear HV
    rintro e w2 ⟨rfl, hb2⟩
    by_cases hn0 : n = 0
    · subst hn0
      go_wp2
      go_ret
      refine ⟨ret_bool ?_, hb.trans (hb2.mono hb.size)⟩
      have : xs = [] := List.eq_nil_of_length_eq_zero HN.out.symm
      rw [this]; rfl
    · have hnz : ((n : Int) == 0) = false := by simp; omega
      go_wp2
      go_loop [5] (fun i => ∃ k : Nat, k ≤ n ∧ i = .int .i64 k ∧ Hid (∀ j, j < k → okP j (xs.getD j 0))) (fun i => n - (intOf i).toNat)
      case atStart => exact ⟨0, Nat.zero_le _, rfl, Lib.hid fun j hj => absurd hj (by omega)⟩
      case round =>
        obtain ⟨k, hk, rfl, hok⟩ := hrel
        by_cases hlt : k < n
        · obtain ⟨g, rfl, hg, hc⟩ := RD.out k hlt
          have hc2 := (hb2.cell (p := ⟨g, k, none⟩) hg).trans hc
          have hts : Hid (okP k (xs.getD k 0) → ∀ j, j < k + 1 → okP j (xs.getD j 0)) := Lib.hid fun h j hj => by
            by_cases e : j = k
            · subst e; exact h
            · exact hok.out j (by omega)
          have hfs : Hid (¬ okP k (xs.getD k 0) → nameB xs = false) := Lib.hid fun h => nameB_false k (by rw [← HN.out]; exact hlt) h
          obtain ⟨x, hx⟩ : ∃ x, xs.getD k 0 = x := ⟨_, rfl⟩
          rw [hx] at hc2 hts hfs
          clear hx hc hok
          rcases Nat.eq_zero_or_pos k with rfl | hk0
          · go_wp2
            all_goals first
              | (go_round
                 case rel => exact ⟨1, by omega, rfl, Lib.hid (hts.out (by go_light; clear hts hfs; simp only [Bool.not_eq_false', beq_iff_eq, beq_eq_false_iff_ne, ne_eq, decide_eq_true_eq] at *; unfold okP letterP followP; omega))⟩
                 case measure => simp [intOf]; omega)
              | (go_ret
                 exact ⟨ret_bool (hfs.out (by go_light; clear hts hfs; simp only [Bool.not_eq_true', beq_eq_false_iff_ne, ne_eq, decide_eq_false_iff_not] at *; unfold okP letterP followP; omega)).symm, hb.trans (hb2.mono hb.size)⟩)
          · have hkz : ((k : Int) == 0) = false := by simp; omega
            go_wp2
            all_goals first
              | (go_round
                 case rel => exact ⟨k + 1, by omega, by go_num, Lib.hid (hts.out (by go_light; clear hts hfs; simp only [Bool.not_eq_false', beq_iff_eq, beq_eq_false_iff_ne, ne_eq, decide_eq_true_eq] at *; unfold okP letterP followP; omega))⟩
                 case measure => simp [intOf]; omega)
              | (go_ret
                 exact ⟨ret_bool (hfs.out (by go_light; clear hts hfs; simp only [Bool.not_eq_true', beq_eq_false_iff_ne, ne_eq, decide_eq_false_iff_not] at *; unfold okP letterP followP; omega)).symm, hb.trans (hb2.mono hb.size)⟩)
        · obtain rfl : k = n := by omega
          go_wp2
          go_ret
          refine ⟨ret_bool ?_, hb.trans (hb2.mono hb.size)⟩
          have hne : xs ≠ [] := by intro h; have := HN.out; rw [h] at this; simp at this; omega
          rw [nameB_true hne (fun j hj => hok.out j (by rw [HN.out]; exact hj))]
end Go.Proofs.YtpdaldpaceolnaaGreatDoor
