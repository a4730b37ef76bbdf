/- The longest name, by the reference and by the lexer, at any place of a valid text. No condition beyond what the theorems state. -/
import Derived.Test.YtolkfhiominjbaaGreatDoorValid
import Derived.Test.YtolkfhiominjbaaGreatDoorLexer
import Derived.Test.YtolkfhiominjbaaGreatDoorLwWords
import Derived.Test.YtolkfhiominjbaaGreatDoorCuts
import Derived.Test.YtolkfhiominjbaaGreatDoorRefSmall
namespace Go.Proofs.YtolkfhiominjbaaGreatDoor
open Go.RowKit Go.Lib
set_option maxRecDepth 100000
set_option maxHeartbeats 2000000 in
theorem name_ref (s : ByteArray) (w : World) (hs : s.size ≤ 1099511627776) : Calls Tryz.prog 28 #[.string s] w fun e w' => e = .returned (.bool (nameX s.data.toList)) ∧ Below w.heap.size w w' := by
  have cP := points_ref s w hs
  have cV := fun W => valid_ref s W hs
  obtain ⟨l, hl⟩ : ∃ l, s.data.toList = l := ⟨_, rfl⟩
  rw [hl] at cP cV ⊢
  have hsz : l.length = s.size := by rw [← hl]; simp
  have hrl := runes_le l
  clear hl
  unfold nameX
  unfold ptsOut at cP
  obtain ⟨X, hX⟩ : ∃ X, validX l = X := ⟨_, rfl⟩
  have hXv : X = true → validD l = true := by rw [← hX]; unfold validX; intro h; exact (Bool.and_eq_true_iff.1 h).1
  rw [hX] at cV ⊢
  obtain ⟨xs, hxs⟩ : ∃ xs, runes l = xs := ⟨_, rfl⟩
  rw [hxs] at cP hrl ⊢
  rw [hsz] at hrl
  clear hxs hsz hX
  have H := Lib.hid cP
  have HV := Lib.hid cV
  have HX := Lib.hid hXv
  clear cP cV hXv
  go_enter Tryz.func28, Tryz.ntmps28
  go_wp2_with fail
  refine H.out.mono ?_
  clear H
  rintro e w1 h1
  have h2 : ∃ (A : Option Addr) (n cap : Nat) (V : Bool), e = .returned (.tuple #[.slice A n cap, .bool V]) ∧ Below w.heap.size w w1 ∧ n ≤ s.size ∧
      (X = true → n = xs.length ∧ ∀ k, k < n → ∃ g, A = some ⟨g, 0, none⟩ ∧ g < w1.heap.size ∧ w1.cell? ⟨g, k, none⟩ = some (.int .i64 ((xs.getD k 0 : Nat) : Int))) := by
    rcases h1 with ⟨hv, v, rfl, hown, hb⟩ | ⟨hv, rfl, hb⟩
    · obtain ⟨A, cap, rfl, hxl, hrd⟩ := own_read hown
      refine ⟨A, _, cap, true, rfl, hb, hrl, fun _ => ⟨rfl, fun k hk => ?_⟩⟩
      obtain ⟨g, rfl, hc⟩ := hrd k hk
      exact ⟨g, rfl, (hown.lt g rfl).2, hc⟩
    · exact ⟨none, 0, 0, false, rfl, hb, by omega, fun h => by rw [HX.out h] at hv; cases hv⟩
  clear h1
  obtain ⟨A, n, cap, V, rfl, hb, hns, hrd⟩ := h2
  have RD := Lib.hid hrd
  clear hrd
  cases X
  · go_wp2_with fail
    refine (HV.out _).mono ?_
    rintro e w2 ⟨rfl, hb2⟩
    go_wp2
    go_ret
    exact ⟨rfl, hb.trans (hb2.mono hb.size)⟩
  · obtain ⟨hn, hrd⟩ := RD.out rfl
    clear RD
    have HN := Lib.hid hn
    clear hn
    have RD := Lib.hid hrd
    clear hrd
    go_wp2_with fail
    refine (HV.out _).mono ?_
    clear HV
    rintro e w2 ⟨rfl, hb2⟩
    by_cases hn0 : n = 0
    · subst hn0
      go_wp2
      go_ret
      refine ⟨ret_bool ?_, hb.trans (hb2.mono hb.size)⟩
      have : xs = [] := List.eq_nil_of_length_eq_zero HN.out.symm
      rw [this]; rfl
    · have hnz : ((n : Int) == 0) = false := by simp; omega
      go_wp2
      go_loop [5] (fun i => ∃ k : Nat, k ≤ n ∧ i = .int .i64 k ∧ Hid (∀ j, j < k → okP j (xs.getD j 0))) (fun i => n - (intOf i).toNat)
      case atStart => exact ⟨0, Nat.zero_le _, rfl, Lib.hid fun j hj => absurd hj (by omega)⟩
      case round =>
        obtain ⟨k, hk, rfl, hok⟩ := hrel
        by_cases hlt : k < n
        · obtain ⟨g, rfl, hg, hc⟩ := RD.out k hlt
          have hc2 := (hb2.cell (p := ⟨g, k, none⟩) hg).trans hc
          have hts : Hid (okP k (xs.getD k 0) → ∀ j, j < k + 1 → okP j (xs.getD j 0)) := Lib.hid fun h j hj => by
            by_cases e : j = k
            · subst e; exact h
            · exact hok.out j (by omega)
          have hfs : Hid (¬ okP k (xs.getD k 0) → nameB xs = false) := Lib.hid fun h => nameB_false k (by rw [← HN.out]; exact hlt) h
          obtain ⟨x, hx⟩ : ∃ x, xs.getD k 0 = x := ⟨_, rfl⟩
          rw [hx] at hc2 hts hfs
          clear hx hc hok
          rcases Nat.eq_zero_or_pos k with rfl | hk0
          · go_wp2
            all_goals first
              | (go_round
                 case rel => exact ⟨1, by omega, rfl, Lib.hid (hts.out (by go_light; clear hts hfs; simp only [Bool.not_eq_false', beq_iff_eq, beq_eq_false_iff_ne, ne_eq, decide_eq_true_eq] at *; unfold okP letterP followP; omega))⟩
                 case measure => simp [intOf]; omega)
              | (go_ret
                 exact ⟨ret_bool (hfs.out (by go_light; clear hts hfs; simp only [Bool.not_eq_true', beq_eq_false_iff_ne, ne_eq, decide_eq_false_iff_not] at *; unfold okP letterP followP; omega)).symm, hb.trans (hb2.mono hb.size)⟩)
          · have hkz : ((k : Int) == 0) = false := by simp; omega
            go_wp2
            all_goals first
              | (go_round
                 case rel => exact ⟨k + 1, by omega, by go_num, Lib.hid (hts.out (by go_light; clear hts hfs; simp only [Bool.not_eq_false', beq_iff_eq, beq_eq_false_iff_ne, ne_eq, decide_eq_true_eq] at *; unfold okP letterP followP; omega))⟩
                 case measure => simp [intOf]; omega)
              | (go_ret
                 exact ⟨ret_bool (hfs.out (by go_light; clear hts hfs; simp only [Bool.not_eq_true', beq_eq_false_iff_ne, ne_eq, decide_eq_false_iff_not] at *; unfold okP letterP followP; omega)).symm, hb.trans (hb2.mono hb.size)⟩)
        · obtain rfl : k = n := by omega
          go_wp2
          go_ret
          refine ⟨ret_bool ?_, hb.trans (hb2.mono hb.size)⟩
          have hne : xs ≠ [] := by intro h; have := HN.out; rw [h] at this; simp at this; omega
          rw [nameB_true hne (fun j hj => hok.out j (by rw [HN.out]; exact hj))]
end Go.Proofs.YtolkfhiominjbaaGreatDoor
namespace Go.Proofs.YtolkfhiominjbaaGreatDoor
open Go.RowKit Go.Lib
set_option maxRecDepth 100000
set_option maxHeartbeats 8000000
/-- Is it a name, or the rest of one? -/
def isN (first : Bool) (c : List UInt8) : Bool := nameX c || (!first && nameX (97 :: c))
def kGo (first : Bool) (l : List UInt8) : Nat → Nat → Nat
  | 0, _ => 0
  | f + 1, k => if k ≤ 4 ∧ k ≤ l.length then (if isN first (l.take k) = true then k else kGo first l f (k + 1)) else 0
/-- How many bytes the longest name has. -/
def nmGo : Nat → Bool → List UInt8 → Nat
  | 0, _, _ => 0
  | f + 1, first, l => if kGo first l 5 1 = 0 then 0 else kGo first l 5 1 + nmGo f false (l.drop (kGo first l 5 1))
theorem kGo_le (first : Bool) (l : List UInt8) : ∀ f k, kGo first l f k ≤ l.length
  | 0, _ => Nat.zero_le _
  | f + 1, k => by
    unfold kGo
    split
    · split
      · omega
      · exact kGo_le first l f (k + 1)
    · exact Nat.zero_le _
theorem nameR_any (s : List UInt8) (i : Nat) (hs : s.length ≤ 70000) (hi : i ≤ s.length) (w : World) : Calls Tryz.prog 16 #[.string (ba' s), .int .i64 (i : Nat)] w fun e w' => e = .returned (.int .i64 ((i + nmGo (s.length + 1) true (s.drop i) : Nat) : Int)) ∧ Below w.heap.size w w' := by
  have s1 : (ba' s).size = s.length := size_ba s
  have HNM : Hid (∀ (c : List UInt8) (W : World), c.length ≤ 70000 → Calls Tryz.prog 28 #[.string (ba' c)] W fun e w' => e = .returned (.bool (nameX c)) ∧ Below W.heap.size W w') := Lib.hid fun c W hc => name_ref (ba' c) W (by rw [size_ba]; omega)
  obtain ⟨R, hR⟩ : ∃ R, i + nmGo (s.length + 1) true (s.drop i) = R := ⟨_, rfl⟩
  have HR := Lib.hid hR
  rw [hR]
  clear hR
  go_enter Tryz.func16, Tryz.ntmps16
  go_wp2
  go_loopw [5] (fun s5 wx => ∃ (p f : Nat), s5 = .int .i64 (p : Nat) ∧ i ≤ p ∧ p ≤ s.length ∧ s.length - p < f ∧ Hid (p + nmGo f (decide (p = i)) (s.drop p) = R) ∧ Below w.heap.size w wx) (fun s5 _ => s.length - (intOf s5).toNat)
  case atStart => exact ⟨i, s.length + 1, rfl, Nat.le_refl _, hi, by omega, by rw [decide_eq_true rfl]; exact HR, Below.refl _ _⟩
  case round =>
    obtain ⟨p, f, rfl, hip, hp, hf, HG, hB⟩ := hrel
    have HB := Lib.hid hB
    by_cases hlt : p < s.length
    · have g1 : decide ((p : Int) < (s.length : Int)) = true := by simp; omega
      have g1' : decide (p < s.length) = true := by simpa using hlt
      obtain ⟨f, rfl⟩ : ∃ f', f = f' + 1 := ⟨f - 1, by omega⟩
      obtain ⟨first, hfi⟩ : ∃ b, decide (p = i) = b := ⟨_, rfl⟩
      have hG := HG.out
      rw [hfi] at hG
      unfold nmGo at hG
      obtain ⟨K, hK⟩ : ∃ K, kGo first (s.drop p) 5 1 = K := ⟨_, rfl⟩
      have hKl := kGo_le first (s.drop p) 5 1
      rw [hK, List.length_drop] at hKl
      rw [hK] at hG
      have HK := Lib.hid hK
      have HGG := Lib.hid hG
      have HFI := Lib.hid hfi
      clear hG hK HG HR hfi
      go_wp2
      go_loopw [6, 7] (fun s6 s7 wx => ∃ (n k : Nat), s6 = .int .i64 (n : Nat) ∧ s7 = .int .i64 (k : Nat) ∧ 1 ≤ k ∧ k ≤ 5 ∧ Hid ((n = 0 → kGo first (s.drop p) (6 - k) k = K) ∧ (n ≠ 0 → n = K)) ∧ Below w.heap.size w wx) (fun _ s7 _ => 6 - (intOf s7).toNat)
      case atStart => exact ⟨0, 1, rfl, rfl, by omega, by omega, Lib.hid ⟨fun _ => HK.out, fun h => absurd rfl h⟩, HB.out⟩
      case round =>
        obtain ⟨n, k, rfl, rfl, hk1, hk5, HQ, hB2⟩ := hrel
        have HB2 := Lib.hid hB2
        by_cases hc : n = 0 ∧ k ≤ 4 ∧ p + k ≤ s.length
        · obtain ⟨rfl, hk4, hpk⟩ := hc
          have q1 : decide ((k : Int) ≤ 4) = true := by simp only [decide_eq_true_eq]; omega
          have q1' : decide (k ≤ 4) = true := by simpa using hk4
          have q2 : decide ((p : Int) + (k : Int) ≤ (s.length : Int)) = true := by simp only [decide_eq_true_eq]; omega
          have q2' : decide (p + k ≤ s.length) = true := by simpa using hpk
          have hext : (ba' s).extract p (p + k) = ba' ((s.drop p).take k) := by rw [cut_mid, Nat.add_sub_cancel_left]
          have hq := HQ.out.1 rfl
          rw [show 6 - k = (5 - k) + 1 by omega] at hq
          unfold kGo at hq
          rw [if_pos ⟨hk4, by rw [List.length_drop]; omega⟩] at hq
          have hcl : ((s.drop p).take k).length = k := by rw [List.length_take, List.length_drop]; omega
          obtain ⟨c, hc⟩ : ∃ c, (s.drop p).take k = c := ⟨_, rfl⟩
          rw [hc] at hext hq hcl
          have HC1 : Hid (∀ W, Calls Tryz.prog 28 #[.string (ba' c)] W fun e w' => e = .returned (.bool (nameX c)) ∧ Below W.heap.size W w') := Lib.hid fun W => HNM.out c W (by omega)
          have HC2 : Hid (∀ W, Calls Tryz.prog 28 #[.string (ba' (97 :: c))] W fun e w' => e = .returned (.bool (nameX (97 :: c))) ∧ Below W.heap.size W w') := Lib.hid fun W => HNM.out (97 :: c) W (by simp only [List.length_cons]; omega)
          have sc : (ba' c).size = c.length := size_ba c
          have hcat : (⟨#[97]⟩ : ByteArray) ++ ba' c = ba' (97 :: c) := by
            show ba' [97] ++ ba' c = _
            rw [ba_app]
            rfl
          clear hc HQ
          obtain ⟨b1, hb1⟩ : ∃ b, nameX c = b := ⟨_, rfl⟩
          obtain ⟨b2, hb2⟩ : ∃ b, nameX (97 :: c) = b := ⟨_, rfl⟩
          unfold isN at hq
          rw [hb1] at HC1 hq
          rw [hb2] at HC2 hq
          have HQ := Lib.hid hq
          clear hq hb1 hb2
          go_wp2_with fail
          refine (HC1.out _).mono ?_
          rintro e w2 ⟨rfl, hb3⟩
          have HB3 := Lib.hid (bt HB2.out hb3)
          clear hb3
          cases b1 with
          | true =>
            have HN : Hid (k = K) := Lib.hid (by have h := HQ.out; rwa [if_pos (by simp)] at h)
            clear HC1 HC2 HQ
            go_wp2
            go_roundw
            case rel => exact ⟨k, k + 1, rfl, by go_num, by omega, by omega, Lib.hid ⟨fun h => absurd h (by omega), fun _ => HN.out⟩, HB3.out⟩
            case measure => simp [intOf]; omega
          | false =>
            cases first with
            | true =>
              have hpi : p = i := of_decide_eq_true HFI.out
              have q3 : decide ((i : Int) < (p : Int)) = false := by simp only [decide_eq_false_iff_not]; omega
              have q3' : decide (i < p) = false := by simp only [decide_eq_false_iff_not]; omega
              clear hpi
              have HN : Hid (kGo true (s.drop p) (6 - (k + 1)) (k + 1) = K) := Lib.hid (by have h := HQ.out; rw [if_neg (by simp)] at h; rw [show 6 - (k + 1) = 5 - k by omega]; exact h)
              clear HC1 HC2 HQ
              go_wp2
              go_roundw
              case rel => exact ⟨0, k + 1, rfl, by go_num, by omega, by omega, Lib.hid ⟨fun _ => HN.out, fun h => absurd rfl h⟩, HB3.out⟩
              case measure => simp [intOf]; omega
            | false =>
              have hpi : p ≠ i := of_decide_eq_false HFI.out
              have q3 : decide ((i : Int) < (p : Int)) = true := by simp only [decide_eq_true_eq]; omega
              have q3' : decide (i < p) = true := by simp only [decide_eq_true_eq]; omega
              have t1 : ¬ (9223372036854775807 < 1 + c.length) := by omega
              go_wp2_with fail
              refine (HC2.out _).mono ?_
              rintro e w4 ⟨rfl, hb4⟩
              have HB4 := Lib.hid (bt HB3.out hb4)
              clear hb4
              cases b2 with
              | true =>
                have HN : Hid (k = K) := Lib.hid (by have h := HQ.out; rwa [if_pos (by simp)] at h)
                clear HC1 HC2 HQ
                go_wp2
                go_roundw
                case rel => exact ⟨k, k + 1, rfl, by go_num, by omega, by omega, Lib.hid ⟨fun h => absurd h (by omega), fun _ => HN.out⟩, HB4.out⟩
                case measure => simp [intOf]; omega
              | false =>
                have HN : Hid (kGo false (s.drop p) (6 - (k + 1)) (k + 1) = K) := Lib.hid (by have h := HQ.out; rw [if_neg (by simp)] at h; rw [show 6 - (k + 1) = 5 - k by omega]; exact h)
                clear HC1 HC2 HQ
                go_wp2
                go_roundw
                case rel => exact ⟨0, k + 1, rfl, by go_num, by omega, by omega, Lib.hid ⟨fun _ => HN.out, fun h => absurd rfl h⟩, HB4.out⟩
                case measure => simp [intOf]; omega
        · have hnK : Hid (n = K) := Lib.hid (by
            by_cases hn : n = 0
            · have h := HQ.out.1 hn
              rw [show 6 - k = (5 - k) + 1 by omega] at h
              unfold kGo at h
              rw [if_neg (fun e => hc ⟨hn, e.1, by have := e.2; rw [List.length_drop] at this; omega⟩)] at h
              omega
            · exact HQ.out.2 hn)
          clear HQ HNM
          by_cases hn : n = 0
          · subst hn
            have HN : Hid (R = p) := Lib.hid (by
              have h := HGG.out
              rw [if_pos hnK.out.symm] at h
              omega)
            by_cases hk4 : k ≤ 4
            · have q1 : decide ((k : Int) ≤ 4) = true := by simp only [decide_eq_true_eq]; omega
              have q1' : decide (k ≤ 4) = true := by simpa using hk4
              have hpk : ¬ p + k ≤ s.length := fun e => hc ⟨rfl, hk4, e⟩
              have q2 : decide ((p : Int) + (k : Int) ≤ (s.length : Int)) = false := by simp only [decide_eq_false_iff_not]; omega
              have q2' : decide (p + k ≤ s.length) = false := by simpa using hpk
              clear hc
              go_wp2
              go_ret
              exact ⟨by rw [HN.out]; rfl, HB2.out⟩
            · have q1 : decide ((k : Int) ≤ 4) = false := by simp only [decide_eq_false_iff_not]; omega
              have q1' : decide (k ≤ 4) = false := by simpa using hk4
              clear hc
              go_wp2
              go_ret
              exact ⟨by rw [HN.out]; rfl, HB2.out⟩
          · have HN : Hid (p + n + nmGo f (decide (p + n = i)) (s.drop (p + n)) = R) := Lib.hid (by
              have h := HGG.out
              rw [← hnK.out, if_neg hn, List.drop_drop] at h
              rw [show decide (p + n = i) = false by simp only [decide_eq_false_iff_not]; omega]
              omega)
            have hnl : p + n ≤ s.length := by have := hnK.out; omega
            have qn : ((n : Int) == 0) = false := by rw [beq_eq_false_iff_ne]; omega
            by_cases hk4 : k ≤ 4
            · have q1 : decide ((k : Int) ≤ 4) = true := by simp only [decide_eq_true_eq]; omega
              have q1' : decide (k ≤ 4) = true := by simpa using hk4
              clear hc
              go_wp2
              go_roundw
              case rel => exact ⟨p + n, f, by go_num, by omega, hnl, by omega, HN, HB2.out⟩
              case measure => simp [intOf]; omega
            · have q1 : decide ((k : Int) ≤ 4) = false := by simp only [decide_eq_false_iff_not]; omega
              have q1' : decide (k ≤ 4) = false := by simpa using hk4
              clear hc
              go_wp2
              go_roundw
              case rel => exact ⟨p + n, f, by go_num, by omega, hnl, by omega, HN, HB2.out⟩
              case measure => simp [intOf]; omega
    · obtain rfl : p = s.length := by omega
      have HN : Hid (R = s.length) := Lib.hid (by
        rw [← HG.out, List.drop_length]
        obtain ⟨f, rfl⟩ : ∃ f', f = f' + 1 := ⟨f - 1, by omega⟩
        rfl)
      clear HG HR
      go_wp2
      go_ret
      exact ⟨by rw [HN.out]; rfl, HB.out⟩
end Go.Proofs.YtolkfhiominjbaaGreatDoor
namespace Go.Proofs.YtolkfhiominjbaaGreatDoor
open Go.RowKit Go.Lib
set_option maxRecDepth 100000
set_option maxHeartbeats 4000000
theorem runes_enc (r : Nat) (h : runeOk r) (z : List UInt8) : runes (enc r ++ z) = r :: runes z := by
  have hp := enc_pos r h
  rw [runes_step _ (by intro e; have := congrArg List.length e; rw [List.length_append] at this; simp only [List.length_nil] at this; omega), decode_enc r h z, List.drop_left]
theorem nameB_at {xs : List Nat} (h : nameB xs = true) (k : Nat) (hk : k < xs.length) : okP k (xs.getD k 0) := by
  unfold nameB at h
  rw [Bool.and_eq_true, List.all_eq_true] at h
  exact of_decide_eq_true (h.2 k (List.mem_range.2 hk))
theorem nameX_head {r : Nat} {z : List UInt8} (hr : runeOk r) (h : nameX (enc r ++ z) = true) : okP 0 r := by
  unfold nameX at h
  rw [Bool.and_eq_true, runes_enc r hr] at h
  exact nameB_at h.2 0 (by simp)
theorem ok97 : runeOk 97 := by unfold runeOk; omega
theorem nameX_second {r : Nat} {z : List UInt8} (hr : runeOk r) (h : nameX (97 :: (enc r ++ z)) = true) : okP 1 r := by
  unfold nameX at h
  rw [Bool.and_eq_true, show (97 : UInt8) :: (enc r ++ z) = enc 97 ++ (enc r ++ z) from rfl, runes_enc 97 ok97, runes_enc r hr] at h
  exact nameB_at h.2 1 (by simp)
theorem nameX_one {r : Nat} (hr : runeOk r) (hx : xmlN r = true) (h : okP 0 r) : nameX (enc r) = true := by
  have hv := validX_enc r hr hx
  unfold nameX
  have e := runes_enc r hr []
  rw [List.append_nil, runes_nil] at e
  rw [hv, e, Bool.true_and]
  refine nameB_true (by simp) fun k hk => ?_
  simp only [List.length_cons, List.length_nil] at hk
  obtain rfl : k = 0 := by omega
  exact h
theorem nameX_two {r : Nat} (hr : runeOk r) (hx : xmlN r = true) (h : okP 1 r) : nameX (97 :: enc r) = true := by
  have hv := vx_app (a := enc 97) (by kernel_rfl) (validX_enc r hr hx)
  unfold nameX
  have e := runes_enc r hr []
  rw [List.append_nil, runes_nil] at e
  rw [show (97 : UInt8) :: enc r = enc 97 ++ enc r from rfl, hv, runes_enc 97 ok97, e, Bool.true_and]
  refine nameB_true (by simp) fun k hk => ?_
  simp only [List.length_cons, List.length_nil] at hk
  rcases (by omega : k = 0 ∨ k = 1) with rfl | rfl
  · show okP 0 97
    decide
  · exact h
theorem isN_enc (first : Bool) {r : Nat} (hr : runeOk r) (hx : xmlN r = true) : isN first (enc r) = decide (okP (if first = true then 0 else 1) r) := by
  unfold isN
  rw [Bool.eq_iff_iff, Bool.or_eq_true, Bool.and_eq_true]
  cases first with
  | true =>
    simp only [Bool.not_true, decide_eq_true_eq, if_true]
    constructor
    · rintro (h | ⟨h, _⟩)
      · exact nameX_head (z := []) hr (by rw [List.append_nil]; exact h)
      · cases h
    · intro h
      exact .inl (nameX_one hr hx h)
  | false =>
    simp only [Bool.not_false, decide_eq_true_eq]
    constructor
    · rintro (h | ⟨_, h⟩)
      · have := nameX_head (z := []) hr (by rw [List.append_nil]; exact h)
        unfold okP at this ⊢
        rcases this with h1 | h1
        · exact .inl h1
        · omega
      · exact nameX_second (z := []) hr (by rw [List.append_nil]; exact h)
    · intro h
      exact .inr ⟨trivial, nameX_two hr hx h⟩
theorem part_bad {r : Nat} (hr : runeOk r) (z : List UInt8) (k : Nat) (h0 : 0 < k) (hk : k < (enc r).length) : validX ((enc r ++ z).take k) = false := by
  cases hv : validX ((enc r ++ z).take k) with
  | false => rfl
  | true =>
    have hlen : ((enc r ++ z).take k).length = k := by rw [List.length_take, List.length_append]; omega
    obtain ⟨r', hr', _, e, _, _⟩ := vx_cut _ (by intro e; rw [e] at hlen; simp at hlen; omega) hv
    have e2 : enc r ++ z = enc r' ++ (((enc r ++ z).take k).drop (enc r').length ++ (enc r ++ z).drop k) := by
      rw [← List.append_assoc, ← e, List.take_append_drop]
    have d1 := decode_enc r hr z
    rw [e2, decode_enc r' hr'] at d1
    have h1 := congrArg Prod.snd d1
    simp only at h1
    have h2 := congrArg List.length e
    rw [hlen, List.length_append] at h2
    omega
theorem isN_small (first : Bool) {r : Nat} (hr : runeOk r) (z : List UInt8) (k : Nat) (h0 : 0 < k) (hk : k < (enc r).length) : isN first ((enc r ++ z).take k) = false := by
  have h := part_bad hr z k h0 hk
  unfold isN
  rw [validX_of h]
  cases h2 : nameX (97 :: (enc r ++ z).take k) with
  | false => cases first <;> rfl
  | true =>
    unfold nameX at h2
    rw [Bool.and_eq_true] at h2
    have := (vx_behind 97 _ (by decide) h2.1).2
    rw [h] at this
    cases this
theorem isN_big (first : Bool) {r : Nat} (hr : runeOk r) (hx : xmlN r = true) (z : List UInt8) (h : isN first (enc r) = false) : isN first (enc r ++ z) = false := by
  rw [isN_enc first hr hx] at h
  have h' := of_decide_eq_false h
  unfold isN
  cases h1 : nameX (enc r ++ z) with
  | true =>
    exfalso
    have := nameX_head hr h1
    cases first with
    | true => exact h' this
    | false =>
      refine h' ?_
      unfold okP at this ⊢
      rcases this with h2 | h2
      · exact .inl h2
      · omega
  | false =>
    cases first with
    | true => rfl
    | false =>
      cases h2 : nameX (97 :: (enc r ++ z)) with
      | false => rfl
      | true => exact absurd (nameX_second hr h2) h'
end Go.Proofs.YtolkfhiominjbaaGreatDoor
namespace Go.Proofs.YtolkfhiominjbaaGreatDoor
open Go.RowKit Go.Lib
set_option maxRecDepth 100000
set_option maxHeartbeats 4000000
theorem name95 {r : Nat} (hr : runeOk r) (hx : xmlN r = true) : nameX (95 :: enc r) = decide (okP 1 r) := by
  have h95 : runeOk 95 := by unfold runeOk; omega
  have hv := vx_app (a := enc 95) (by kernel_rfl) (validX_enc r hr hx)
  have e := runes_enc r hr []
  rw [List.append_nil, runes_nil] at e
  unfold nameX
  rw [show (95 : UInt8) :: enc r = enc 95 ++ enc r from rfl, hv, runes_enc 95 h95, e, Bool.true_and]
  by_cases h : okP 1 r
  · rw [decide_eq_true h]
    refine nameB_true (by simp) fun k hk => ?_
    simp only [List.length_cons, List.length_nil] at hk
    rcases (by omega : k = 0 ∨ k = 1) with rfl | rfl
    · show okP 0 95
      decide
    · exact h
  · rw [decide_eq_false h]
    exact nameB_false 1 (by simp) h
theorem enc_le4 (r : Nat) (h : runeOk r) : (enc r).length ≤ 4 := by
  rw [encZ r h]
  repeat' split
  all_goals simp
theorem kGo_run (first : Bool) {r : Nat} (hr : runeOk r) (hx : xmlN r = true) (z : List UInt8) : ∀ f k, 1 ≤ k → k + f = 6 →
    (k ≤ (enc r).length → kGo first (enc r ++ z) f k = if isN first (enc r) = true then (enc r).length else 0) ∧ ((enc r).length < k → isN first (enc r) = false → kGo first (enc r ++ z) f k = 0)
  | 0, k, _, h6 => ⟨fun h => by have := enc_le4 r hr; omega, fun _ _ => rfl⟩
  | f + 1, k, h1, h6 => by
    obtain ⟨i1, i2⟩ := kGo_run first hr hx z f (k + 1) (by omega) (by omega)
    have h4 := enc_le4 r hr
    refine ⟨fun hk => ?_, fun hk hn => ?_⟩
    · unfold kGo
      rw [if_pos ⟨by omega, by rw [List.length_append]; omega⟩]
      rcases Nat.lt_or_ge k (enc r).length with hl | hl
      · rw [isN_small first hr z k h1 hl, if_neg (by decide)]
        exact i1 hl
      · obtain rfl : k = (enc r).length := by omega
        rw [List.take_left]
        cases hb : isN first (enc r) with
        | true => rfl
        | false =>
          rw [if_neg (by decide), if_neg (by decide)]
          exact i2 (by omega) hb
    · unfold kGo
      by_cases hc : k ≤ 4 ∧ k ≤ (enc r ++ z).length
      · have e : (enc r ++ z).take k = enc r ++ z.take (k - (enc r).length) := by
          rw [List.take_append, List.take_of_length_le (by omega)]
        rw [if_pos hc, e, isN_big first hr hx _ hn, if_neg (by decide)]
        exact i2 (by omega) hn
      · rw [if_neg hc]
theorem kGo_enc (first : Bool) {r : Nat} (hr : runeOk r) (hx : xmlN r = true) (z : List UInt8) : kGo first (enc r ++ z) 5 1 = if isN first (enc r) = true then (enc r).length else 0 :=
  (kGo_run first hr hx z 5 1 (Nat.le_refl _) rfl).1 (enc_pos r hr)
/-- The rest of a name, by the lexer's way and by the reference's. -/
theorem plain_nm (l : List UInt8) : ∀ (f g p : Nat), p ≤ l.length → l.length < p + f → l.length < p + g → validX (l.drop p) = true → plainGo (ba' l) f p = p + nmGo g false (l.drop p)
  | 0, g, p, hp, hf, _, _ => by omega
  | f + 1, 0, p, hp, _, hg, _ => by omega
  | f + 1, g + 1, p, hp, hf, hg, hv => by
    unfold plainGo nmGo
    by_cases hlt : p < l.length
    · have hsz : p < (ba' l).size := by rw [size_ba]; exact hlt
      rw [if_pos hsz]
      have hne : l.drop p ≠ [] := by rw [ne_eq, List.drop_eq_nil_iff]; omega
      obtain ⟨r, hr, hx, e, hd, hv2⟩ := vx_cut _ hne hv
      have hdec : Utf8.decode (ba' l) p = (r, (enc r).length) := by
        rw [← decodeL_drop (ba' l) p]
        exact hd
      rw [hdec]
      simp only
      have hk := kGo_enc false hr hx ((l.drop p).drop (enc r).length)
      rw [← e] at hk
      rw [hk, isN_enc false hr hx]
      have hpos := enc_pos r hr
      have hnm : nameX ((⟨#[95]⟩ ++ Utf8.encode (r : Int) : ByteArray).data.toList) = decide (okP 1 r) := by
        have h2 := enc_utf8 r hr
        have h1 : (⟨#[95]⟩ ++ Utf8.encode (r : Int) : ByteArray).data.toList = 95 :: (Utf8.encode (r : Int)).data.toList := by
          generalize Utf8.encode (r : Int) = X
          simp
        rw [h1, h2]
        exact name95 hr hx
      rw [hnm]
      simp only [Bool.false_eq_true, if_false]
      by_cases ho : okP 1 r
      · rw [decide_eq_true ho, if_pos rfl, if_pos rfl, if_neg (by omega)]
        have hle : (enc r).length ≤ (l.drop p).length := by
          have h := congrArg List.length e
          rw [List.length_append] at h
          omega
        rw [List.length_drop] at hle
        rw [plain_nm l f g (p + (enc r).length) (by omega) (by omega) (by omega) (by rw [← List.drop_drop]; exact hv2), List.drop_drop]
        omega
      · rw [decide_eq_false ho]
        rfl
    · obtain rfl : p = l.length := by omega
      rw [if_neg (by rw [size_ba]; omega), List.drop_length, size_ba]
      rfl
end Go.Proofs.YtolkfhiominjbaaGreatDoor
namespace Go.Proofs.YtolkfhiominjbaaGreatDoor
open Go.RowKit Go.Lib
set_option maxRecDepth 100000
set_option maxHeartbeats 4000000
theorem ok_follow {r : Nat} (h : okP 0 r) : okP 1 r := by
  unfold okP at h ⊢
  rcases h with h | h
  · exact .inl h
  · omega
theorem plain_is (l : List UInt8) (g : Nat) (hg : l.length < g) (hv : validX l = true) : (plainF l).length = nmGo g true l := by
  obtain ⟨g, rfl⟩ : ∃ g', g = g' + 1 := ⟨g - 1, by omega⟩
  by_cases hne : l = []
  · subst hne
    unfold plainF
    rw [letter_nil, if_neg (by decide)]
    rfl
  · have hl : 0 < l.length := by cases l with | nil => exact absurd rfl hne | cons => simp
    obtain ⟨r, hr, hx, e, hd, hv2⟩ := vx_cut l hne hv
    have hpos := enc_pos r hr
    have hdec : Utf8.decode (ba' l) 0 = (r, (enc r).length) := by
      rw [← decodeL_drop (ba' l) 0]
      exact hd
    have hlf : letterF l = decide (okP 0 r) := by
      unfold letterF decodeGo
      rw [if_neg (by rw [size_ba]; omega), hdec]
      simp only
      have et : l.take (enc r).length = enc r := by
        conv => lhs; rw [e]
        rw [List.take_left]
      rw [et]
      by_cases ho : okP 0 r
      · rw [decide_eq_true ho]
        exact nameX_one hr hx ho
      · rw [decide_eq_false ho]
        cases h : nameX (enc r) with
        | false => rfl
        | true => exact absurd (nameX_head (z := []) hr (by rw [List.append_nil]; exact h)) ho
    have hk := kGo_enc true hr hx (l.drop (enc r).length)
    rw [← e, isN_enc true hr hx] at hk
    simp only [if_true] at hk
    unfold plainF
    rw [hlf]
    by_cases ho : okP 0 r
    · rw [decide_eq_true ho, if_pos rfl]
      rw [decide_eq_true ho, if_pos rfl] at hk
      have h1 := plain_nm l (l.length + 1) (g + 1) 0 (Nat.zero_le _) (by omega) (by omega) hv
      have hk2 := kGo_enc false hr hx (l.drop (enc r).length)
      rw [← e, isN_enc false hr hx] at hk2
      simp only [Bool.false_eq_true, if_false] at hk2
      rw [decide_eq_true (ok_follow ho), if_pos rfl] at hk2
      rw [List.length_take, Nat.min_eq_left (plainGo_le l _ 0 (Nat.zero_le _)), h1, List.drop_zero, Nat.zero_add]
      unfold nmGo
      rw [hk, hk2]
    · rw [decide_eq_false ho, if_neg (by decide)]
      rw [decide_eq_false ho, if_neg (by decide)] at hk
      unfold nmGo
      rw [hk]
      rfl
end Go.Proofs.YtolkfhiominjbaaGreatDoor
namespace Go.Proofs.YtolkfhiominjbaaGreatDoor
open Go.RowKit Go.Lib
set_option maxRecDepth 100000
set_option maxHeartbeats 4000000
theorem enc_cont (r : Nat) (h : runeOk r) (k : Nat) (h0 : 0 < k) (hk : k < (enc r).length) : 128 ≤ ((enc r).getD k 0).toNat ∧ ((enc r).getD k 0).toNat < 192 := by
  have hr : r ≤ 1114111 := by unfold runeOk at h; omega
  rw [encZ r h] at hk ⊢
  split at hk
  · simp only [List.length_cons, List.length_nil] at hk; omega
  · rename_i c1
    rw [if_neg c1]
    split at hk
    · rename_i c2
      rw [if_pos c2]
      simp only [List.length_cons, List.length_nil] at hk
      obtain rfl : k = 1 := by omega
      show 128 ≤ ((128 + r % 64).toUInt8).toNat ∧ _
      rw [show ([(192 + r / 64).toUInt8, (128 + r % 64).toUInt8] : List UInt8).getD 1 0 = (128 + r % 64).toUInt8 from rfl, u8N _ (by omega)]
      omega
    · rename_i c2
      rw [if_neg c2]
      split at hk
      · rename_i c3
        rw [if_pos c3]
        simp only [List.length_cons, List.length_nil] at hk
        rcases (by omega : k = 1 ∨ k = 2) with rfl | rfl
        · rw [show ([(224 + r / 4096).toUInt8, (128 + r / 64 % 64).toUInt8, (128 + r % 64).toUInt8] : List UInt8).getD 1 0 = (128 + r / 64 % 64).toUInt8 from rfl, u8N _ (by omega)]
          omega
        · rw [show ([(224 + r / 4096).toUInt8, (128 + r / 64 % 64).toUInt8, (128 + r % 64).toUInt8] : List UInt8).getD 2 0 = (128 + r % 64).toUInt8 from rfl, u8N _ (by omega)]
          omega
      · rename_i c3
        rw [if_neg c3]
        simp only [List.length_cons, List.length_nil] at hk
        rcases (by omega : k = 1 ∨ k = 2 ∨ k = 3) with rfl | rfl | rfl
        · rw [show ([(240 + r / 262144).toUInt8, (128 + r / 4096 % 64).toUInt8, (128 + r / 64 % 64).toUInt8, (128 + r % 64).toUInt8] : List UInt8).getD 1 0 = (128 + r / 4096 % 64).toUInt8 from rfl, u8N _ (by omega)]
          omega
        · rw [show ([(240 + r / 262144).toUInt8, (128 + r / 4096 % 64).toUInt8, (128 + r / 64 % 64).toUInt8, (128 + r % 64).toUInt8] : List UInt8).getD 2 0 = (128 + r / 64 % 64).toUInt8 from rfl, u8N _ (by omega)]
          omega
        · rw [show ([(240 + r / 262144).toUInt8, (128 + r / 4096 % 64).toUInt8, (128 + r / 64 % 64).toUInt8, (128 + r % 64).toUInt8] : List UInt8).getD 3 0 = (128 + r % 64).toUInt8 from rfl, u8N _ (by omega)]
          omega
theorem enc_first (r : Nat) (h : runeOk r) : ((enc r).getD 0 0).toNat = r ∧ r ≤ 127 ∨ 192 ≤ ((enc r).getD 0 0).toNat ∧ 128 ≤ r := by
  have hr : r ≤ 1114111 := by unfold runeOk at h; omega
  rw [encZ r h]
  split
  · rename_i c1
    refine .inl ⟨?_, c1⟩
    show (r.toUInt8).toNat = r
    exact u8N _ (by omega)
  · refine .inr ⟨?_, by omega⟩
    split
    · show 192 ≤ ((192 + r / 64).toUInt8).toNat
      rw [u8N _ (by omega)]
      omega
    · split
      · show 192 ≤ ((224 + r / 4096).toUInt8).toNat
        rw [u8N _ (by omega)]
        omega
      · show 192 ≤ ((240 + r / 262144).toUInt8).toNat
        rw [u8N _ (by omega)]
        omega
/-- Valid, or within a character. -/
def GoodT (l : List UInt8) : Prop := validX l = true ∨ ∃ c t, l = c :: t ∧ 128 ≤ c.toNat ∧ c.toNat < 192
theorem good_drop : ∀ (n : Nat) (s : List UInt8) (p : Nat), s.length ≤ n → validX s = true → GoodT (s.drop p)
  | n, [], p, _, _ => by rw [List.drop_nil]; exact .inl validX_nil
  | 0, a :: s, p, h, _ => by simp at h
  | n + 1, a :: s, p, hn, hv => by
    obtain ⟨r, hr, hx, e, _, hv2⟩ := vx_cut _ (by simp) hv
    have hp := enc_pos r hr
    rcases Nat.eq_zero_or_pos p with rfl | h0
    · exact .inl hv
    · by_cases hlt : p < (enc r).length
      · right
        have hd : (a :: s).drop p = (enc r).drop p ++ (a :: s).drop (enc r).length := by
          conv => lhs; rw [e]
          rw [List.drop_append_of_le_length (by omega)]
        rw [hd, List.drop_eq_getElem_cons hlt]
        have hg : (enc r)[p] = (enc r).getD p 0 := by rw [List.getD_eq_getElem?_getD, List.getElem?_eq_getElem hlt]; rfl
        refine ⟨(enc r)[p], _, rfl, ?_⟩
        rw [hg]
        exact enc_cont r hr p h0 hlt
      · have hd : (a :: s).drop p = ((a :: s).drop (enc r).length).drop (p - (enc r).length) := by
          rw [List.drop_drop]
          congr 1
          omega
        rw [hd]
        exact good_drop n _ _ (by rw [List.length_drop]; simp only [List.length_cons] at hn ⊢; omega) hv2
/-- The first byte of a name. -/
def headB (c : UInt8) : Prop := (65 ≤ c.toNat ∧ c.toNat ≤ 90) ∨ (97 ≤ c.toNat ∧ c.toNat ≤ 122) ∨ c.toNat = 95 ∨ 192 ≤ c.toNat
theorem name_first {c : UInt8} {t : List UInt8} (h : nameX (c :: t) = true) : headB c := by
  have hv : validX (c :: t) = true := by
    unfold nameX at h
    exact (Bool.and_eq_true_iff.1 h).1
  obtain ⟨r, hr, hx, e, _, _⟩ := vx_cut _ (by simp) hv
  have hp := enc_pos r hr
  have hok : okP 0 r := by
    rw [e] at h
    exact nameX_head hr h
  have hc : c = (enc r).getD 0 0 := by
    have h1 := congrArg (fun z => z.getD 0 0) e
    simp only [List.getD_cons_zero] at h1
    rw [h1, List.getD_eq_getElem?_getD, List.getElem?_append_left hp, ← List.getD_eq_getElem?_getD]
  have hf := enc_first r hr
  rw [← hc] at hf
  unfold okP letterP followP at hok
  unfold headB
  omega
theorem cont_name {c : UInt8} {t : List UInt8} (h1 : 128 ≤ c.toNat) (h2 : c.toNat < 192) : nameX (c :: t) = false := by
  cases h : nameX (c :: t) with
  | false => rfl
  | true =>
    have := name_first h
    unfold headB at this
    omega
theorem letter_take (l : List UInt8) : ∃ n, letterF l = nameX (l.take n) := ⟨_, rfl⟩
theorem letter_first {c : UInt8} {t : List UInt8} (h : letterF (c :: t) = true) : headB c := by
  obtain ⟨n, hn⟩ := letter_take (c :: t)
  rw [hn] at h
  rcases n with _ | n
  · rw [List.take_zero, nameX_nil] at h
    cases h
  · rw [List.take_succ_cons] at h
    exact name_first h
theorem cont_letter {c : UInt8} {t : List UInt8} (h1 : 128 ≤ c.toNat) (h2 : c.toNat < 192) : letterF (c :: t) = false := by
  cases h : letterF (c :: t) with
  | false => rfl
  | true =>
    have := letter_first h
    unfold headB at this
    omega
theorem cont_k {c : UInt8} {t : List UInt8} (h1 : 128 ≤ c.toNat) (h2 : c.toNat < 192) : ∀ f k, 0 < k → kGo true (c :: t) f k = 0
  | 0, _, _ => rfl
  | f + 1, k, h0 => by
    unfold kGo
    split
    · obtain ⟨k, rfl⟩ : ∃ k', k = k' + 1 := ⟨k - 1, by omega⟩
      have hn : isN true ((c :: t).take (k + 1)) = false := by
        unfold isN
        rw [List.take_succ_cons, cont_name h1 h2]
        rfl
      rw [hn, if_neg (by decide)]
      exact cont_k h1 h2 f (k + 1 + 1) (by omega)
    · rfl
/-- The longest name that the reference finds from any place of a valid text. -/
theorem plain_good (l : List UInt8) (g : Nat) (hg : l.length < g) (hv : GoodT l) : (plainF l).length = nmGo g true l := by
  rcases hv with hv | ⟨c, t, rfl, h1, h2⟩
  · exact plain_is l g hg hv
  · unfold plainF
    rw [cont_letter h1 h2, if_neg (by decide)]
    obtain ⟨g, rfl⟩ : ∃ g', g = g' + 1 := ⟨g - 1, by omega⟩
    unfold nmGo
    rw [cont_k h1 h2 5 1 (by omega)]
    rfl
theorem plain_letter (l : List UInt8) : letterF l = decide (plainF l ≠ []) := by
  cases h : letterF l with
  | true => exact (decide_eq_true (letter_plain l h)).symm
  | false =>
    unfold plainF
    rw [h, if_neg (by decide)]
    rfl
theorem head_no {c : UInt8} (h : headB c) : c ≠ 36 ∧ c ≠ 34 ∧ c ≠ 39 ∧ c ≠ 46 ∧ tens.contains c = false ∧ onesL.contains c = false := by
  have hall : ∀ n : Fin 256, ((65 ≤ n.val ∧ n.val ≤ 90) ∨ (97 ≤ n.val ∧ n.val ≤ 122) ∨ n.val = 95 ∨ 192 ≤ n.val) → UInt8.ofNat n.val ≠ 36 ∧ UInt8.ofNat n.val ≠ 34 ∧ UInt8.ofNat n.val ≠ 39 ∧ UInt8.ofNat n.val ≠ 46 ∧ tens.contains (UInt8.ofNat n.val) = false ∧ onesL.contains (UInt8.ofNat n.val) = false := by decide +kernel
  have := hall ⟨c.toNat, c.toNat_lt⟩ h
  simpa only [UInt8.ofNat_toNat] using this
theorem head_two {c d : UInt8} (h : headB c) : twosL.contains [c, d] = false := by
  have hall : ∀ p ∈ twosL, ∀ x ∈ p.head?, ¬ headB x := by
    unfold headB
    decide +kernel
  cases hc : twosL.contains [c, d] with
  | false => rfl
  | true =>
    rw [List.contains_eq_mem, decide_eq_true_eq] at hc
    exact absurd h (hall _ hc c rfl)
theorem sign_cons (c : UInt8) (t : List UInt8) (h1 : onesL.contains c = false) (h2 : ∀ d, twosL.contains [c, d] = false) : signF (c :: t) = [] := by
  have h3 : oneF c = [] := by unfold oneF; rw [h1]; rfl
  rcases t with _ | ⟨d, t⟩
  · exact h3
  · show (if twosL.contains [c, d] = true then [c, d] else oneF c) = []
    rw [h2 d, if_neg (by decide), h3]
theorem head_sign {c : UInt8} {t : List UInt8} (h : headB c) : signF (c :: t) = [] :=
  sign_cons c t (head_no h).2.2.2.2.2 fun _ => head_two h
/-- What begins with a letter is a name. -/
theorem tok_letter {c : UInt8} {t : List UInt8} (h : letterF (c :: t) = true) : tokF (c :: t) = (1, qualF (c :: t), (qualF (c :: t)).length) := by
  have hh := letter_first h
  obtain ⟨h1, h2, h3, h4, h5, h6⟩ := head_no hh
  have hd : digF (c :: t) = 0 := by rw [digF_cons, h5]; rfl
  have hn : ¬ (0 < digF (c :: t) ∨ (c = 46 ∧ 0 < digF t)) := by
    rintro (e | e)
    · omega
    · exact h4 e.1
  rw [tok_cons, if_neg h1, if_neg (by rintro (e | e); exact h2 e; exact h3 e), if_neg hn, head_sign hh, if_pos rfl]
/-- What begins with no letter has no name. -/
theorem qual_no {l : List UInt8} (h : plainF l = []) : qualF l = [] := by
  unfold qualF
  rw [if_pos h]
theorem dig_at (l : List UInt8) : digAt l = decide (0 < digF l) := by
  rcases l with _ | ⟨c, t⟩
  · rfl
  · rw [digF_cons]
    have hall : ∀ n : Fin 256, (decide (48 ≤ n.val) && decide (n.val ≤ 57)) = tens.contains (UInt8.ofNat n.val) := by decide +kernel
    have := hall ⟨c.toNat, c.toNat_lt⟩
    simp only [UInt8.ofNat_toNat] at this
    show digB c = _
    unfold digB
    rw [this]
    cases tens.contains c <;> simp
/-- Digits to the end of them. -/
theorem dig_step (l : List UInt8) (h : digAt l = true) : 0 < digF l ∧ digF (l.drop 1) = digF l - 1 := by
  rw [dig_at, decide_eq_true_eq] at h
  refine ⟨h, ?_⟩
  rcases l with _ | ⟨c, t⟩
  · cases h
  · rw [digF_cons] at h ⊢
    split
    · rfl
    · rename_i e
      rw [if_neg e] at h
      omega
theorem dig_stop (l : List UInt8) (h : digAt l = false) : digF l = 0 := by
  rw [dig_at, decide_eq_false_iff_not] at h
  omega
theorem good_behind {c : UInt8} {t : List UInt8} (hc : c.toNat < 128) (h : GoodT (c :: t)) : validX t = true := by
  rcases h with h | ⟨c', t', e, h1, h2⟩
  · exact (vx_behind c t hc h).2
  · cases e
    omega
end Go.Proofs.YtolkfhiominjbaaGreatDoor
