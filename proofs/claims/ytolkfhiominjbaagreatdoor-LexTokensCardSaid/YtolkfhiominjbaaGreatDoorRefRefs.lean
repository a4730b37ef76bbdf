/- What a reference at a place says, as the reference reads it; pieces of text. No condition beyond what the theorems state. -/
import Derived.Test.YtolkfhiominjbaaGreatDoorRefs
import Derived.Test.YtolkfhiominjbaaGreatDoorRefSmall
import Derived.Laws.BytesArg
import Derived.Test.YtolkfhiominjbaaGreatDoorLwWords
namespace Go.Proofs.YtolkfhiominjbaaGreatDoor
open Go.RowKit Go.Lib
set_option maxRecDepth 100000
set_option maxHeartbeats 4000000
theorem val_dig (b : Nat) (hb : b = 10 ∨ b = 16) (c : UInt8) : (b ≤ valF c ↔ b ≤ digV c.toNat) ∧ (¬ b ≤ valF c → valF c = digV c.toNat) := by
  have h : ∀ n : Fin 256, ((10 ≤ valF (UInt8.ofNat n.val) ↔ 10 ≤ digV n.val) ∧ (¬ 10 ≤ valF (UInt8.ofNat n.val) → valF (UInt8.ofNat n.val) = digV n.val)) ∧ ((16 ≤ valF (UInt8.ofNat n.val) ↔ 16 ≤ digV n.val) ∧ (¬ 16 ≤ valF (UInt8.ofNat n.val) → valF (UInt8.ofNat n.val) = digV n.val)) := by decide +kernel
  have h1 := h ⟨c.toNat, c.toNat_lt⟩
  simp only [UInt8.ofNat_toNat] at h1
  rcases hb with rfl | rfl
  · exact h1.1
  · exact h1.2
def refGo (b : Nat) : List UInt8 → Nat → Option Nat
  | [], n => some n
  | c :: t, n => if b ≤ valF c then none else refGo b t (min (b * n + valF c) 5000000)
def chF (n : Nat) : Option (List UInt8) := if xmlB n = true then some (encU n) else none
theorem ch_big {n : Nat} (h : 1114111 < n) : chF n = none := by
  unfold chF
  rw [if_neg]
  intro e
  have := (xml_bounds e).2
  omega
theorem ref_stuck (b : Nat) (hb : b = 10 ∨ b = 16) : ∀ l : List UInt8, (refGo b l 5000000).bind chF = none
  | [] => ch_big (by omega)
  | c :: t => by
    unfold refGo
    split
    · rfl
    · rw [show min (b * 5000000 + valF c) 5000000 = 5000000 by rcases hb with rfl | rfl <;> omega]
      exact ref_stuck b hb t
theorem ref_pu (b : Nat) (hb : b = 10 ∨ b = 16) : ∀ (l : List UInt8) (n : Nat), (puGo b l n).bind chF = (refGo b l (min n 5000000)).bind chF
  | [], n => by
    show chF n = chF (min n 5000000)
    by_cases h : n ≤ 5000000
    · rw [Nat.min_eq_left h]
    · rw [ch_big (by omega), Nat.min_eq_right (by omega), ch_big (by omega)]
  | c :: t, n => by
    obtain ⟨v1, v2⟩ := val_dig b hb c
    unfold puGo refGo
    by_cases h : b ≤ valF c
    · rw [if_pos h, if_pos (v1.1 h)]
    · rw [if_neg h, if_neg (fun e => h (v1.2 e)), ← v2 h]
      have v3 : valF c < 16 := by rcases hb with rfl | rfl <;> omega
      by_cases h2 : 2147483647 < n * b + valF c
      · rw [if_pos h2]
        have hn : min (b * min n 5000000 + valF c) 5000000 = 5000000 := by
          rcases hb with rfl | rfl <;> omega
        rw [hn, ref_stuck b hb t]
        rfl
      · rw [if_neg h2, ref_pu b hb t]
        have hn : min (b * min n 5000000 + valF c) 5000000 = min (n * b + valF c) 5000000 := by
          rcases hb with rfl | rfl <;> omega
        rw [hn]
/-- The character of a number in some base, by the reference's way. -/
theorem num_ref (b : Nat) (hb : b = 10 ∨ b = 16) (l : List UInt8) (hne : l ≠ []) : numF b l = (refGo b l 0).bind chF := by
  unfold numF parseU
  rw [if_neg hne]
  exact ref_pu b hb l 0
/-- How many bytes stand ahead of the first semicolon. -/
def semi : List UInt8 → Nat
  | [] => 0
  | c :: t => if c = 59 then 0 else semi t + 1
theorem semi_le : ∀ l : List UInt8, semi l ≤ l.length
  | [] => Nat.le_refl _
  | c :: t => by
    unfold semi
    have := semi_le t
    split
    · exact Nat.zero_le _
    · simp only [List.length_cons]; omega
theorem index_semi : ∀ l : List UInt8, Lib.index l [59] = if semi l < l.length then (semi l : Int) else -1
  | [] => by simp [Lib.index, semi]
  | b :: l => by
    rw [Lib.index]
    unfold semi
    by_cases h1 : b = 59
    · subst h1
      simp [List.isPrefixOf]
    · have h2 : ([59] : List UInt8).isPrefixOf (b :: l) = false := by
        simp only [List.isPrefixOf, Bool.and_true, beq_eq_false_iff_ne, ne_eq]
        exact fun e => h1 e.symm
      rw [h2, if_neg (by decide), if_neg h1, index_semi l]
      by_cases h3 : semi l < l.length
      · rw [if_pos h3, if_neg (by simp only [beq_iff_eq]; omega), if_pos (by simp only [List.length_cons]; omega)]
        omega
      · rw [if_neg h3, if_pos (by rfl), if_neg (by simp only [List.length_cons]; omega)]
theorem cut_semi (l : List UInt8) : Lib.cut l [59] = if semi l < l.length then (l.take (semi l), l.drop (semi l + 1), true) else (l, [], false) := by
  unfold Lib.cut
  rw [index_semi]
  by_cases h : semi l < l.length
  · rw [if_pos h, if_pos h, if_pos (by omega)]
    rfl
  · rw [if_neg h, if_neg h, if_neg (by omega)]
/-- What a reference says, by the semicolon. -/
theorem cutF_semi (l : List UInt8) : cutF l = if semi l < l.length then (meanF (l.take (semi l))).map fun m => (m, l.drop (semi l + 1)) else none := by
  unfold cutF
  rw [cut_semi]
  by_cases h : semi l < l.length
  · rw [if_pos h, if_pos h]
    rfl
  · rw [if_neg h, if_neg h]
    rfl
end Go.Proofs.YtolkfhiominjbaaGreatDoor
namespace Go.Proofs.YtolkfhiominjbaaGreatDoor
open Go.RowKit Go.Lib
set_option maxRecDepth 100000
def strPost (B : Nat) (w : World) (l : List UInt8) (e : Ending) (w' : World) : Prop := ∃ o : ByteArray, e = .returned (.string o) ∧ o.data.toList = l ∧ Below B w w'
set_option maxHeartbeats 2000000 in
theorem one1_any (p : Int) (h0 : 0 ≤ p) (h : p < 128) (hok : runeOk p.toNat) (w : World) : Calls Tryz.prog 53 #[.int .i64 p] w (strPost w.heap.size w (enc p.toNat)) := by
  have E : Hid ((strOfNums [p]).data.toList = enc p.toNat) := Lib.hid (by
    rw [strOfNums_data, encZ p.toNat hok, if_pos (by omega)]
    rfl)
  have hcv : (convert 63 9 (.slice (some ⟨w.heap.size, 0, none⟩) 1 1)).run Tryz.prog (w.alloc (.cells #[.int .u8 (p)] 5)) = .ok (.string (strOfNums [p])) (w.alloc (.cells #[.int .u8 (p)] 5)) :=
    run_convert_bytes_arg (P := Tryz.prog) (w.alloc (.cells #[.int .u8 (p)] 5)) 63 5 Tryz.underlying63 Tryz.underlying5 w.heap.size 0 1 1 [p] rfl (by
      intro i hi
      rw [Nat.zero_add]
      match i, hi with
      | 0, _ => simp) 9 Tryz.underlying9
  have hb : Below w.heap.size w (w.alloc (.cells #[.int .u8 (p)] 5)) := (Below.refl _ _).alloc (Nat.le_refl _) _
  obtain ⟨o, ho⟩ : ∃ o, strOfNums [p] = o := ⟨_, rfl⟩
  rw [ho] at hcv E
  clear ho hok
  have HB := Lib.hid hb
  clear hb
  go_enter Tryz.func53, Tryz.ntmps53
  go_wp2
  go_ret
  exact ⟨o, rfl, E.out, HB.out⟩
set_option maxHeartbeats 2000000 in
theorem one2_any (p : Int) (h0 : 128 ≤ p) (h : p < 2048) (hok : runeOk p.toNat) (w : World) : Calls Tryz.prog 53 #[.int .i64 p] w (strPost w.heap.size w (enc p.toNat)) := by
  have E : Hid ((strOfNums [192 + p / 64, 128 + p % 64]).data.toList = enc p.toNat) := Lib.hid (by
    rw [strOfNums_data, encZ p.toNat hok, if_neg (by omega), if_pos (by omega)]
    simp only [List.map_cons, List.map_nil]
    rw [show (192 + p / 64).toNat = 192 + p.toNat / 64 from by omega, show (128 + p % 64).toNat = 128 + p.toNat % 64 from by omega])
  have hcv : (convert 63 9 (.slice (some ⟨w.heap.size, 0, none⟩) 2 2)).run Tryz.prog (w.alloc (.cells #[.int .u8 (192 + p / 64), .int .u8 (128 + p % 64)] 5)) = .ok (.string (strOfNums [192 + p / 64, 128 + p % 64])) (w.alloc (.cells #[.int .u8 (192 + p / 64), .int .u8 (128 + p % 64)] 5)) :=
    run_convert_bytes_arg (P := Tryz.prog) (w.alloc (.cells #[.int .u8 (192 + p / 64), .int .u8 (128 + p % 64)] 5)) 63 5 Tryz.underlying63 Tryz.underlying5 w.heap.size 0 2 2 [192 + p / 64, 128 + p % 64] rfl (by
      intro i hi
      rw [Nat.zero_add]
      match i, hi with
      | 0, _ => simp
      | 1, _ => simp) 9 Tryz.underlying9
  have hb : Below w.heap.size w (w.alloc (.cells #[.int .u8 (192 + p / 64), .int .u8 (128 + p % 64)] 5)) := (Below.refl _ _).alloc (Nat.le_refl _) _
  obtain ⟨o, ho⟩ : ∃ o, strOfNums [192 + p / 64, 128 + p % 64] = o := ⟨_, rfl⟩
  rw [ho] at hcv E
  clear ho hok
  have HB := Lib.hid hb
  clear hb
  go_enter Tryz.func53, Tryz.ntmps53
  go_wp2
  go_ret
  exact ⟨o, rfl, E.out, HB.out⟩
set_option maxHeartbeats 2000000 in
theorem one3_any (p : Int) (h0 : 2048 ≤ p) (h : p < 65536) (hok : runeOk p.toNat) (w : World) : Calls Tryz.prog 53 #[.int .i64 p] w (strPost w.heap.size w (enc p.toNat)) := by
  have E : Hid ((strOfNums [224 + p / 4096, 128 + p / 64 % 64, 128 + p % 64]).data.toList = enc p.toNat) := Lib.hid (by
    rw [strOfNums_data, encZ p.toNat hok, if_neg (by omega), if_neg (by omega), if_pos (by omega)]
    simp only [List.map_cons, List.map_nil]
    rw [show (224 + p / 4096).toNat = 224 + p.toNat / 4096 from by omega, show (128 + p / 64 % 64).toNat = 128 + p.toNat / 64 % 64 from by omega, show (128 + p % 64).toNat = 128 + p.toNat % 64 from by omega])
  have hcv : (convert 63 9 (.slice (some ⟨w.heap.size, 0, none⟩) 3 3)).run Tryz.prog (w.alloc (.cells #[.int .u8 (224 + p / 4096), .int .u8 (128 + p / 64 % 64), .int .u8 (128 + p % 64)] 5)) = .ok (.string (strOfNums [224 + p / 4096, 128 + p / 64 % 64, 128 + p % 64])) (w.alloc (.cells #[.int .u8 (224 + p / 4096), .int .u8 (128 + p / 64 % 64), .int .u8 (128 + p % 64)] 5)) :=
    run_convert_bytes_arg (P := Tryz.prog) (w.alloc (.cells #[.int .u8 (224 + p / 4096), .int .u8 (128 + p / 64 % 64), .int .u8 (128 + p % 64)] 5)) 63 5 Tryz.underlying63 Tryz.underlying5 w.heap.size 0 3 3 [224 + p / 4096, 128 + p / 64 % 64, 128 + p % 64] rfl (by
      intro i hi
      rw [Nat.zero_add]
      match i, hi with
      | 0, _ => simp
      | 1, _ => simp
      | 2, _ => simp) 9 Tryz.underlying9
  have hb : Below w.heap.size w (w.alloc (.cells #[.int .u8 (224 + p / 4096), .int .u8 (128 + p / 64 % 64), .int .u8 (128 + p % 64)] 5)) := (Below.refl _ _).alloc (Nat.le_refl _) _
  obtain ⟨o, ho⟩ : ∃ o, strOfNums [224 + p / 4096, 128 + p / 64 % 64, 128 + p % 64] = o := ⟨_, rfl⟩
  rw [ho] at hcv E
  clear ho hok
  have HB := Lib.hid hb
  clear hb
  go_enter Tryz.func53, Tryz.ntmps53
  go_wp2
  go_ret
  exact ⟨o, rfl, E.out, HB.out⟩
set_option maxHeartbeats 2000000 in
theorem one4_any (p : Int) (h0 : 65536 ≤ p) (h : p < 1114112) (hok : runeOk p.toNat) (w : World) : Calls Tryz.prog 53 #[.int .i64 p] w (strPost w.heap.size w (enc p.toNat)) := by
  have E : Hid ((strOfNums [240 + p / 262144, 128 + p / 4096 % 64, 128 + p / 64 % 64, 128 + p % 64]).data.toList = enc p.toNat) := Lib.hid (by
    rw [strOfNums_data, encZ p.toNat hok, if_neg (by omega), if_neg (by omega), if_neg (by omega)]
    simp only [List.map_cons, List.map_nil]
    rw [show (240 + p / 262144).toNat = 240 + p.toNat / 262144 from by omega, show (128 + p / 4096 % 64).toNat = 128 + p.toNat / 4096 % 64 from by omega, show (128 + p / 64 % 64).toNat = 128 + p.toNat / 64 % 64 from by omega, show (128 + p % 64).toNat = 128 + p.toNat % 64 from by omega])
  have hcv : (convert 63 9 (.slice (some ⟨w.heap.size, 0, none⟩) 4 4)).run Tryz.prog (w.alloc (.cells #[.int .u8 (240 + p / 262144), .int .u8 (128 + p / 4096 % 64), .int .u8 (128 + p / 64 % 64), .int .u8 (128 + p % 64)] 5)) = .ok (.string (strOfNums [240 + p / 262144, 128 + p / 4096 % 64, 128 + p / 64 % 64, 128 + p % 64])) (w.alloc (.cells #[.int .u8 (240 + p / 262144), .int .u8 (128 + p / 4096 % 64), .int .u8 (128 + p / 64 % 64), .int .u8 (128 + p % 64)] 5)) :=
    run_convert_bytes_arg (P := Tryz.prog) (w.alloc (.cells #[.int .u8 (240 + p / 262144), .int .u8 (128 + p / 4096 % 64), .int .u8 (128 + p / 64 % 64), .int .u8 (128 + p % 64)] 5)) 63 5 Tryz.underlying63 Tryz.underlying5 w.heap.size 0 4 4 [240 + p / 262144, 128 + p / 4096 % 64, 128 + p / 64 % 64, 128 + p % 64] rfl (by
      intro i hi
      rw [Nat.zero_add]
      match i, hi with
      | 0, _ => simp
      | 1, _ => simp
      | 2, _ => simp
      | 3, _ => simp) 9 Tryz.underlying9
  have hb : Below w.heap.size w (w.alloc (.cells #[.int .u8 (240 + p / 262144), .int .u8 (128 + p / 4096 % 64), .int .u8 (128 + p / 64 % 64), .int .u8 (128 + p % 64)] 5)) := (Below.refl _ _).alloc (Nat.le_refl _) _
  obtain ⟨o, ho⟩ : ∃ o, strOfNums [240 + p / 262144, 128 + p / 4096 % 64, 128 + p / 64 % 64, 128 + p % 64] = o := ⟨_, rfl⟩
  rw [ho] at hcv E
  clear ho hok
  have HB := Lib.hid hb
  clear hb
  go_enter Tryz.func53, Tryz.ntmps53
  go_wp2
  go_ret
  exact ⟨o, rfl, E.out, HB.out⟩
theorem one_any (r : Nat) (hok : runeOk r) (w : World) : Calls Tryz.prog 53 #[.int .i64 r] w (strPost w.heap.size w (enc r)) := by
  have hr : (r : Int) < 1114112 := by unfold runeOk at hok; omega
  have h0 : (0 : Int) ≤ (r : Int) := by omega
  have he : enc r = enc (r : Int).toNat := by simp
  rw [he]
  have hok' : runeOk (r : Int).toNat := by simpa using hok
  generalize (r : Int) = p at *
  by_cases c1 : p < 128
  · exact one1_any p h0 c1 hok' w
  by_cases c2 : p < 2048
  · exact one2_any p (by omega) c2 hok' w
  by_cases c3 : p < 65536
  · exact one3_any p (by omega) c3 hok' w
  exact one4_any p (by omega) hr hok' w
end Go.Proofs.YtolkfhiominjbaaGreatDoor
namespace Go.Proofs.YtolkfhiominjbaaGreatDoor
open Go.RowKit Go.Lib
set_option maxRecDepth 100000
set_option maxHeartbeats 8000000
def refV (n : Nat) : Option (List UInt8 × List UInt8) → Value
  | some (m, t) => .tuple #[.string (ba' m), .int .i64 ((n - t.length : Nat) : Int)]
  | none => .tuple #[.string ⟨#[]⟩, .int .i64 (-1)]
def rv (E : Nat) : Option (List UInt8) → Value
  | some m => .tuple #[.string (ba' m), .int .i64 (E : Int)]
  | none => .tuple #[.string ⟨#[]⟩, .int .i64 (-1)]
def RefNo : Value := .tuple #[.string ⟨#[]⟩, .int .i64 (-1)]
theorem ba_list (o : ByteArray) : ba' o.data.toList = o := rfl
theorem xml_ok {n : Nat} (h : xmlB (n : Int) = true) : runeOk n := by
  have := (xmlB_iff _).1 h
  unfold xmlP at this
  unfold runeOk
  omega
theorem refc_n0 (s M : List UInt8) (i E N : Nat) (hs : s.length ≤ 70000) (hiE : i + 1 ≤ E) (hEl : E < s.length) (HE : Hid (i + semi (s.drop i) = E)) (HX : Hid ((ba' s).extract (i + 1) E = ba' M)) (_sm : (ba' M).size = N) (_hN7 : N ≤ 70000)
    (e0 : ((ba' M).toList == [108, 116]) = true) (w : World) :
    Calls Tryz.prog 29 #[.string (ba' s), .int .i64 (i : Nat)] w fun e w' => e = .returned (rv (E + 1) (some [60])) ∧ Below w.heap.size w w' := by
  have s1 : (ba' s).size = s.length := size_ba s
  go_enter Tryz.func29, Tryz.ntmps29
  go_wp2
  go_loopw [6] (fun s6 wx => ∃ p : Nat, s6 = .int .i64 (p : Nat) ∧ p ≤ s.length ∧ Hid (p + semi (s.drop p) = E) ∧ wx = w) (fun s6 _ => s.length - (intOf s6).toNat)
  case atStart => exact ⟨i, rfl, by omega, HE, rfl⟩
  case round =>
    obtain ⟨p, rfl, hp, HP, hww⟩ := hrel
    obtain rfl := hww.symm
    clear HE hww
    by_cases hlt : p < s.length
    · have g1 : decide ((p : Int) < (s.length : Int)) = true := by simp; omega
      have g1' : decide (p < s.length) = true := by simpa using hlt
      have hlt' : p < (ba' s).size := by omega
      obtain ⟨c, hc⟩ : ∃ c, s[p]'hlt = c := ⟨_, rfl⟩
      have ec : (ba' s)[p]'hlt' = c := hc
      have hd : s.drop p = c :: s.drop (p + 1) := by rw [List.drop_eq_getElem_cons hlt, hc]
      by_cases h59 : c = 59
      · have hPE : p = E := by
          have h := HP.out
          rw [hd, h59] at h
          rw [← h]
          show p = p + (if (59 : UInt8) = 59 then 0 else _)
          rw [if_pos rfl]
          rfl
        have q59 : ((c.toNat : Int) == 59) = true := by rw [h59]; rfl
        have q59' : ((c.toNat : Int) != 59) = false := by rw [bne, q59]; rfl
        clear hd hc h59 HP
        subst hPE
        have gE : ((p : Int) == (s.length : Int)) = false := by rw [beq_eq_false_iff_ne]; omega
        have gE' : (p == s.length) = false := by rw [beq_eq_false_iff_ne]; omega
        have hext := HX.out
        clear HX
        go_wp2
        refine wp_loop_rounds 6 ?_
        rw [rounds_succ]
        go_wp2
        go_ret2
        exact ⟨rfl, ba (Below.refl _ _)⟩
      · have q59 : ((c.toNat : Int) == 59) = false := nat_ne (b := 59) h59
        have q59' : ((c.toNat : Int) != 59) = true := by rw [bne, q59]; rfl
        have HN : Hid (p + 1 + semi (s.drop (p + 1)) = E) := Lib.hid (by
          have h := HP.out
          rw [hd] at h
          have h2 : semi (c :: s.drop (p + 1)) = semi (s.drop (p + 1)) + 1 := by
            show (if c = 59 then 0 else _) = _
            rw [if_neg h59]
          omega)
        clear HP hc hd h59 HX
        go_wp2
        go_roundw
        case rel => exact ⟨p + 1, by go_num, by omega, HN, trivial⟩
        case measure => simp [intOf]; omega
    · exfalso
      have h := HP.out
      rw [List.drop_eq_nil_iff.2 (by omega)] at h
      have h0 : semi [] = 0 := rfl
      omega
theorem refc_n1 (s M : List UInt8) (i E N : Nat) (hs : s.length ≤ 70000) (hiE : i + 1 ≤ E) (hEl : E < s.length) (HE : Hid (i + semi (s.drop i) = E)) (HX : Hid ((ba' s).extract (i + 1) E = ba' M)) (_sm : (ba' M).size = N) (_hN7 : N ≤ 70000)
    (e0 : ((ba' M).toList == [108, 116]) = false) (e1 : ((ba' M).toList == [103, 116]) = true) (w : World) :
    Calls Tryz.prog 29 #[.string (ba' s), .int .i64 (i : Nat)] w fun e w' => e = .returned (rv (E + 1) (some [62])) ∧ Below w.heap.size w w' := by
  have s1 : (ba' s).size = s.length := size_ba s
  go_enter Tryz.func29, Tryz.ntmps29
  go_wp2
  go_loopw [6] (fun s6 wx => ∃ p : Nat, s6 = .int .i64 (p : Nat) ∧ p ≤ s.length ∧ Hid (p + semi (s.drop p) = E) ∧ wx = w) (fun s6 _ => s.length - (intOf s6).toNat)
  case atStart => exact ⟨i, rfl, by omega, HE, rfl⟩
  case round =>
    obtain ⟨p, rfl, hp, HP, hww⟩ := hrel
    obtain rfl := hww.symm
    clear HE hww
    by_cases hlt : p < s.length
    · have g1 : decide ((p : Int) < (s.length : Int)) = true := by simp; omega
      have g1' : decide (p < s.length) = true := by simpa using hlt
      have hlt' : p < (ba' s).size := by omega
      obtain ⟨c, hc⟩ : ∃ c, s[p]'hlt = c := ⟨_, rfl⟩
      have ec : (ba' s)[p]'hlt' = c := hc
      have hd : s.drop p = c :: s.drop (p + 1) := by rw [List.drop_eq_getElem_cons hlt, hc]
      by_cases h59 : c = 59
      · have hPE : p = E := by
          have h := HP.out
          rw [hd, h59] at h
          rw [← h]
          show p = p + (if (59 : UInt8) = 59 then 0 else _)
          rw [if_pos rfl]
          rfl
        have q59 : ((c.toNat : Int) == 59) = true := by rw [h59]; rfl
        have q59' : ((c.toNat : Int) != 59) = false := by rw [bne, q59]; rfl
        clear hd hc h59 HP
        subst hPE
        have gE : ((p : Int) == (s.length : Int)) = false := by rw [beq_eq_false_iff_ne]; omega
        have gE' : (p == s.length) = false := by rw [beq_eq_false_iff_ne]; omega
        have hext := HX.out
        clear HX
        go_wp2
        refine wp_loop_rounds 6 ?_
        rw [rounds_succ]
        go_wp2
        rw [rounds_succ]
        go_wp2
        go_ret2
        exact ⟨rfl, ba (Below.refl _ _)⟩
      · have q59 : ((c.toNat : Int) == 59) = false := nat_ne (b := 59) h59
        have q59' : ((c.toNat : Int) != 59) = true := by rw [bne, q59]; rfl
        have HN : Hid (p + 1 + semi (s.drop (p + 1)) = E) := Lib.hid (by
          have h := HP.out
          rw [hd] at h
          have h2 : semi (c :: s.drop (p + 1)) = semi (s.drop (p + 1)) + 1 := by
            show (if c = 59 then 0 else _) = _
            rw [if_neg h59]
          omega)
        clear HP hc hd h59 HX
        go_wp2
        go_roundw
        case rel => exact ⟨p + 1, by go_num, by omega, HN, trivial⟩
        case measure => simp [intOf]; omega
    · exfalso
      have h := HP.out
      rw [List.drop_eq_nil_iff.2 (by omega)] at h
      have h0 : semi [] = 0 := rfl
      omega
theorem refc_n2 (s M : List UInt8) (i E N : Nat) (hs : s.length ≤ 70000) (hiE : i + 1 ≤ E) (hEl : E < s.length) (HE : Hid (i + semi (s.drop i) = E)) (HX : Hid ((ba' s).extract (i + 1) E = ba' M)) (_sm : (ba' M).size = N) (_hN7 : N ≤ 70000)
    (e0 : ((ba' M).toList == [108, 116]) = false) (e1 : ((ba' M).toList == [103, 116]) = false) (e2 : ((ba' M).toList == [97, 109, 112]) = true) (w : World) :
    Calls Tryz.prog 29 #[.string (ba' s), .int .i64 (i : Nat)] w fun e w' => e = .returned (rv (E + 1) (some [38])) ∧ Below w.heap.size w w' := by
  have s1 : (ba' s).size = s.length := size_ba s
  go_enter Tryz.func29, Tryz.ntmps29
  go_wp2
  go_loopw [6] (fun s6 wx => ∃ p : Nat, s6 = .int .i64 (p : Nat) ∧ p ≤ s.length ∧ Hid (p + semi (s.drop p) = E) ∧ wx = w) (fun s6 _ => s.length - (intOf s6).toNat)
  case atStart => exact ⟨i, rfl, by omega, HE, rfl⟩
  case round =>
    obtain ⟨p, rfl, hp, HP, hww⟩ := hrel
    obtain rfl := hww.symm
    clear HE hww
    by_cases hlt : p < s.length
    · have g1 : decide ((p : Int) < (s.length : Int)) = true := by simp; omega
      have g1' : decide (p < s.length) = true := by simpa using hlt
      have hlt' : p < (ba' s).size := by omega
      obtain ⟨c, hc⟩ : ∃ c, s[p]'hlt = c := ⟨_, rfl⟩
      have ec : (ba' s)[p]'hlt' = c := hc
      have hd : s.drop p = c :: s.drop (p + 1) := by rw [List.drop_eq_getElem_cons hlt, hc]
      by_cases h59 : c = 59
      · have hPE : p = E := by
          have h := HP.out
          rw [hd, h59] at h
          rw [← h]
          show p = p + (if (59 : UInt8) = 59 then 0 else _)
          rw [if_pos rfl]
          rfl
        have q59 : ((c.toNat : Int) == 59) = true := by rw [h59]; rfl
        have q59' : ((c.toNat : Int) != 59) = false := by rw [bne, q59]; rfl
        clear hd hc h59 HP
        subst hPE
        have gE : ((p : Int) == (s.length : Int)) = false := by rw [beq_eq_false_iff_ne]; omega
        have gE' : (p == s.length) = false := by rw [beq_eq_false_iff_ne]; omega
        have hext := HX.out
        clear HX
        go_wp2
        refine wp_loop_rounds 6 ?_
        rw [rounds_succ]
        go_wp2
        rw [rounds_succ]
        go_wp2
        rw [rounds_succ]
        go_wp2
        go_ret2
        exact ⟨rfl, ba (Below.refl _ _)⟩
      · have q59 : ((c.toNat : Int) == 59) = false := nat_ne (b := 59) h59
        have q59' : ((c.toNat : Int) != 59) = true := by rw [bne, q59]; rfl
        have HN : Hid (p + 1 + semi (s.drop (p + 1)) = E) := Lib.hid (by
          have h := HP.out
          rw [hd] at h
          have h2 : semi (c :: s.drop (p + 1)) = semi (s.drop (p + 1)) + 1 := by
            show (if c = 59 then 0 else _) = _
            rw [if_neg h59]
          omega)
        clear HP hc hd h59 HX
        go_wp2
        go_roundw
        case rel => exact ⟨p + 1, by go_num, by omega, HN, trivial⟩
        case measure => simp [intOf]; omega
    · exfalso
      have h := HP.out
      rw [List.drop_eq_nil_iff.2 (by omega)] at h
      have h0 : semi [] = 0 := rfl
      omega
theorem refc_n3 (s M : List UInt8) (i E N : Nat) (hs : s.length ≤ 70000) (hiE : i + 1 ≤ E) (hEl : E < s.length) (HE : Hid (i + semi (s.drop i) = E)) (HX : Hid ((ba' s).extract (i + 1) E = ba' M)) (_sm : (ba' M).size = N) (_hN7 : N ≤ 70000)
    (e0 : ((ba' M).toList == [108, 116]) = false) (e1 : ((ba' M).toList == [103, 116]) = false) (e2 : ((ba' M).toList == [97, 109, 112]) = false) (e3 : ((ba' M).toList == [113, 117, 111, 116]) = true) (w : World) :
    Calls Tryz.prog 29 #[.string (ba' s), .int .i64 (i : Nat)] w fun e w' => e = .returned (rv (E + 1) (some [34])) ∧ Below w.heap.size w w' := by
  have s1 : (ba' s).size = s.length := size_ba s
  go_enter Tryz.func29, Tryz.ntmps29
  go_wp2
  go_loopw [6] (fun s6 wx => ∃ p : Nat, s6 = .int .i64 (p : Nat) ∧ p ≤ s.length ∧ Hid (p + semi (s.drop p) = E) ∧ wx = w) (fun s6 _ => s.length - (intOf s6).toNat)
  case atStart => exact ⟨i, rfl, by omega, HE, rfl⟩
  case round =>
    obtain ⟨p, rfl, hp, HP, hww⟩ := hrel
    obtain rfl := hww.symm
    clear HE hww
    by_cases hlt : p < s.length
    · have g1 : decide ((p : Int) < (s.length : Int)) = true := by simp; omega
      have g1' : decide (p < s.length) = true := by simpa using hlt
      have hlt' : p < (ba' s).size := by omega
      obtain ⟨c, hc⟩ : ∃ c, s[p]'hlt = c := ⟨_, rfl⟩
      have ec : (ba' s)[p]'hlt' = c := hc
      have hd : s.drop p = c :: s.drop (p + 1) := by rw [List.drop_eq_getElem_cons hlt, hc]
      by_cases h59 : c = 59
      · have hPE : p = E := by
          have h := HP.out
          rw [hd, h59] at h
          rw [← h]
          show p = p + (if (59 : UInt8) = 59 then 0 else _)
          rw [if_pos rfl]
          rfl
        have q59 : ((c.toNat : Int) == 59) = true := by rw [h59]; rfl
        have q59' : ((c.toNat : Int) != 59) = false := by rw [bne, q59]; rfl
        clear hd hc h59 HP
        subst hPE
        have gE : ((p : Int) == (s.length : Int)) = false := by rw [beq_eq_false_iff_ne]; omega
        have gE' : (p == s.length) = false := by rw [beq_eq_false_iff_ne]; omega
        have hext := HX.out
        clear HX
        go_wp2
        refine wp_loop_rounds 6 ?_
        rw [rounds_succ]
        go_wp2
        rw [rounds_succ]
        go_wp2
        rw [rounds_succ]
        go_wp2
        rw [rounds_succ]
        go_wp2
        go_ret2
        exact ⟨rfl, ba (Below.refl _ _)⟩
      · have q59 : ((c.toNat : Int) == 59) = false := nat_ne (b := 59) h59
        have q59' : ((c.toNat : Int) != 59) = true := by rw [bne, q59]; rfl
        have HN : Hid (p + 1 + semi (s.drop (p + 1)) = E) := Lib.hid (by
          have h := HP.out
          rw [hd] at h
          have h2 : semi (c :: s.drop (p + 1)) = semi (s.drop (p + 1)) + 1 := by
            show (if c = 59 then 0 else _) = _
            rw [if_neg h59]
          omega)
        clear HP hc hd h59 HX
        go_wp2
        go_roundw
        case rel => exact ⟨p + 1, by go_num, by omega, HN, trivial⟩
        case measure => simp [intOf]; omega
    · exfalso
      have h := HP.out
      rw [List.drop_eq_nil_iff.2 (by omega)] at h
      have h0 : semi [] = 0 := rfl
      omega
theorem refc_n4 (s M : List UInt8) (i E N : Nat) (hs : s.length ≤ 70000) (hiE : i + 1 ≤ E) (hEl : E < s.length) (HE : Hid (i + semi (s.drop i) = E)) (HX : Hid ((ba' s).extract (i + 1) E = ba' M)) (_sm : (ba' M).size = N) (_hN7 : N ≤ 70000)
    (e0 : ((ba' M).toList == [108, 116]) = false) (e1 : ((ba' M).toList == [103, 116]) = false) (e2 : ((ba' M).toList == [97, 109, 112]) = false) (e3 : ((ba' M).toList == [113, 117, 111, 116]) = false) (e4 : ((ba' M).toList == [97, 112, 111, 115]) = true) (w : World) :
    Calls Tryz.prog 29 #[.string (ba' s), .int .i64 (i : Nat)] w fun e w' => e = .returned (rv (E + 1) (some [39])) ∧ Below w.heap.size w w' := by
  have s1 : (ba' s).size = s.length := size_ba s
  go_enter Tryz.func29, Tryz.ntmps29
  go_wp2
  go_loopw [6] (fun s6 wx => ∃ p : Nat, s6 = .int .i64 (p : Nat) ∧ p ≤ s.length ∧ Hid (p + semi (s.drop p) = E) ∧ wx = w) (fun s6 _ => s.length - (intOf s6).toNat)
  case atStart => exact ⟨i, rfl, by omega, HE, rfl⟩
  case round =>
    obtain ⟨p, rfl, hp, HP, hww⟩ := hrel
    obtain rfl := hww.symm
    clear HE hww
    by_cases hlt : p < s.length
    · have g1 : decide ((p : Int) < (s.length : Int)) = true := by simp; omega
      have g1' : decide (p < s.length) = true := by simpa using hlt
      have hlt' : p < (ba' s).size := by omega
      obtain ⟨c, hc⟩ : ∃ c, s[p]'hlt = c := ⟨_, rfl⟩
      have ec : (ba' s)[p]'hlt' = c := hc
      have hd : s.drop p = c :: s.drop (p + 1) := by rw [List.drop_eq_getElem_cons hlt, hc]
      by_cases h59 : c = 59
      · have hPE : p = E := by
          have h := HP.out
          rw [hd, h59] at h
          rw [← h]
          show p = p + (if (59 : UInt8) = 59 then 0 else _)
          rw [if_pos rfl]
          rfl
        have q59 : ((c.toNat : Int) == 59) = true := by rw [h59]; rfl
        have q59' : ((c.toNat : Int) != 59) = false := by rw [bne, q59]; rfl
        clear hd hc h59 HP
        subst hPE
        have gE : ((p : Int) == (s.length : Int)) = false := by rw [beq_eq_false_iff_ne]; omega
        have gE' : (p == s.length) = false := by rw [beq_eq_false_iff_ne]; omega
        have hext := HX.out
        clear HX
        go_wp2
        refine wp_loop_rounds 6 ?_
        rw [rounds_succ]
        go_wp2
        rw [rounds_succ]
        go_wp2
        rw [rounds_succ]
        go_wp2
        rw [rounds_succ]
        go_wp2
        rw [rounds_succ]
        go_wp2
        go_ret2
        exact ⟨rfl, ba (Below.refl _ _)⟩
      · have q59 : ((c.toNat : Int) == 59) = false := nat_ne (b := 59) h59
        have q59' : ((c.toNat : Int) != 59) = true := by rw [bne, q59]; rfl
        have HN : Hid (p + 1 + semi (s.drop (p + 1)) = E) := Lib.hid (by
          have h := HP.out
          rw [hd] at h
          have h2 : semi (c :: s.drop (p + 1)) = semi (s.drop (p + 1)) + 1 := by
            show (if c = 59 then 0 else _) = _
            rw [if_neg h59]
          omega)
        clear HP hc hd h59 HX
        go_wp2
        go_roundw
        case rel => exact ⟨p + 1, by go_num, by omega, HN, trivial⟩
        case measure => simp [intOf]; omega
    · exfalso
      have h := HP.out
      rw [List.drop_eq_nil_iff.2 (by omega)] at h
      have h0 : semi [] = 0 := rfl
      omega
theorem refc_short (s M : List UInt8) (i E N : Nat) (hs : s.length ≤ 70000) (hiE : i + 1 ≤ E) (hEl : E < s.length) (HE : Hid (i + semi (s.drop i) = E)) (HX : Hid ((ba' s).extract (i + 1) E = ba' M)) (sm : (ba' M).size = N) (hN7 : N ≤ 70000)
    (e0 : ((ba' M).toList == [108, 116]) = false) (e1 : ((ba' M).toList == [103, 116]) = false) (e2 : ((ba' M).toList == [97, 109, 112]) = false) (e3 : ((ba' M).toList == [113, 117, 111, 116]) = false) (e4 : ((ba' M).toList == [97, 112, 111, 115]) = false) (hN1 : N ≤ 1) (w : World) :
    Calls Tryz.prog 29 #[.string (ba' s), .int .i64 (i : Nat)] w fun e w' => e = .returned (RefNo) ∧ Below w.heap.size w w' := by
  have s1 : (ba' s).size = s.length := size_ba s
  have a1 : decide ((N : Int) > 1) = false := by simp; omega
  have a1' : decide ((1 : Int) < (N : Int)) = false := by simp; omega
  have a1'' : decide (1 < N) = false := by simp; omega
  have a2 : decide ((N : Int) ≤ 1) = true := by simp; omega
  have a2' : decide (N ≤ 1) = true := by simp; omega
  clear hN1
  go_enter Tryz.func29, Tryz.ntmps29
  go_wp2
  go_loopw [6] (fun s6 wx => ∃ p : Nat, s6 = .int .i64 (p : Nat) ∧ p ≤ s.length ∧ Hid (p + semi (s.drop p) = E) ∧ wx = w) (fun s6 _ => s.length - (intOf s6).toNat)
  case atStart => exact ⟨i, rfl, by omega, HE, rfl⟩
  case round =>
    obtain ⟨p, rfl, hp, HP, hww⟩ := hrel
    obtain rfl := hww.symm
    clear HE hww
    by_cases hlt : p < s.length
    · have g1 : decide ((p : Int) < (s.length : Int)) = true := by simp; omega
      have g1' : decide (p < s.length) = true := by simpa using hlt
      have hlt' : p < (ba' s).size := by omega
      obtain ⟨c, hc⟩ : ∃ c, s[p]'hlt = c := ⟨_, rfl⟩
      have ec : (ba' s)[p]'hlt' = c := hc
      have hd : s.drop p = c :: s.drop (p + 1) := by rw [List.drop_eq_getElem_cons hlt, hc]
      by_cases h59 : c = 59
      · have hPE : p = E := by
          have h := HP.out
          rw [hd, h59] at h
          rw [← h]
          show p = p + (if (59 : UInt8) = 59 then 0 else _)
          rw [if_pos rfl]
          rfl
        have q59 : ((c.toNat : Int) == 59) = true := by rw [h59]; rfl
        have q59' : ((c.toNat : Int) != 59) = false := by rw [bne, q59]; rfl
        clear hd hc h59 HP
        subst hPE
        have gE : ((p : Int) == (s.length : Int)) = false := by rw [beq_eq_false_iff_ne]; omega
        have gE' : (p == s.length) = false := by rw [beq_eq_false_iff_ne]; omega
        have hext := HX.out
        clear HX
        go_wp2
        refine wp_loop_rounds 6 ?_
        rw [rounds_succ]
        go_wp2
        rw [rounds_succ]
        go_wp2
        rw [rounds_succ]
        go_wp2
        rw [rounds_succ]
        go_wp2
        rw [rounds_succ]
        go_wp2
        rw [rounds_succ]
        go_wp2
        go_ret2
        exact ⟨rfl, ba (Below.refl _ _)⟩
      · have q59 : ((c.toNat : Int) == 59) = false := nat_ne (b := 59) h59
        have q59' : ((c.toNat : Int) != 59) = true := by rw [bne, q59]; rfl
        have HN : Hid (p + 1 + semi (s.drop (p + 1)) = E) := Lib.hid (by
          have h := HP.out
          rw [hd] at h
          have h2 : semi (c :: s.drop (p + 1)) = semi (s.drop (p + 1)) + 1 := by
            show (if c = 59 then 0 else _) = _
            rw [if_neg h59]
          omega)
        clear HP hc hd h59 HX
        go_wp2
        go_roundw
        case rel => exact ⟨p + 1, by go_num, by omega, HN, trivial⟩
        case measure => simp [intOf]; omega
    · exfalso
      have h := HP.out
      rw [List.drop_eq_nil_iff.2 (by omega)] at h
      have h0 : semi [] = 0 := rfl
      omega
theorem refc_ha (s M : List UInt8) (i E N : Nat) (hs : s.length ≤ 70000) (hiE : i + 1 ≤ E) (hEl : E < s.length) (HE : Hid (i + semi (s.drop i) = E)) (HX : Hid ((ba' s).extract (i + 1) E = ba' M)) (sm : (ba' M).size = N) (hN7 : N ≤ 70000)
    (e0 : ((ba' M).toList == [108, 116]) = false) (e1 : ((ba' M).toList == [103, 116]) = false) (e2 : ((ba' M).toList == [97, 109, 112]) = false) (e3 : ((ba' M).toList == [113, 117, 111, 116]) = false) (e4 : ((ba' M).toList == [97, 112, 111, 115]) = false) (a c2 : UInt8) (hx0 : ∀ h : 0 < (ba' M).size, (ba' M)[0]'h = a) (hx1 : ∀ h : 1 < (ba' M).size, (ba' M)[1]'h = c2) (q35 : ((a.toNat : Int) == 35) = false) (q120 : ((c2.toNat : Int) == 120) = true) (hN2 : N = 2) (w : World) :
    Calls Tryz.prog 29 #[.string (ba' s), .int .i64 (i : Nat)] w fun e w' => e = .returned (RefNo) ∧ Below w.heap.size w w' := by
  have s1 : (ba' s).size = s.length := size_ba s
  have x0' : 0 < (ba' M).size := by omega
  have x1' : 1 < (ba' M).size := by omega
  have x0 := hx0 x0'
  have x1 := hx1 x1'
  clear hx0 hx1
  have q35n : ((a.toNat : Int) != 35) = true := by rw [bne, q35]; rfl
  have a1 : decide ((N : Int) > 1) = true := by simp; omega
  have a1' : decide ((1 : Int) < (N : Int)) = true := by simp; omega
  have a1'' : decide (1 < N) = true := by simp; omega
  have a2 : decide ((N : Int) ≤ 2) = true := by simp; omega
  have a2' : decide (N ≤ 2) = true := by simp; omega
  clear hN2
  go_enter Tryz.func29, Tryz.ntmps29
  go_wp2
  go_loopw [6] (fun s6 wx => ∃ p : Nat, s6 = .int .i64 (p : Nat) ∧ p ≤ s.length ∧ Hid (p + semi (s.drop p) = E) ∧ wx = w) (fun s6 _ => s.length - (intOf s6).toNat)
  case atStart => exact ⟨i, rfl, by omega, HE, rfl⟩
  case round =>
    obtain ⟨p, rfl, hp, HP, hww⟩ := hrel
    obtain rfl := hww.symm
    clear HE hww
    by_cases hlt : p < s.length
    · have g1 : decide ((p : Int) < (s.length : Int)) = true := by simp; omega
      have g1' : decide (p < s.length) = true := by simpa using hlt
      have hlt' : p < (ba' s).size := by omega
      obtain ⟨c, hc⟩ : ∃ c, s[p]'hlt = c := ⟨_, rfl⟩
      have ec : (ba' s)[p]'hlt' = c := hc
      have hd : s.drop p = c :: s.drop (p + 1) := by rw [List.drop_eq_getElem_cons hlt, hc]
      by_cases h59 : c = 59
      · have hPE : p = E := by
          have h := HP.out
          rw [hd, h59] at h
          rw [← h]
          show p = p + (if (59 : UInt8) = 59 then 0 else _)
          rw [if_pos rfl]
          rfl
        have q59 : ((c.toNat : Int) == 59) = true := by rw [h59]; rfl
        have q59' : ((c.toNat : Int) != 59) = false := by rw [bne, q59]; rfl
        clear hd hc h59 HP
        subst hPE
        have gE : ((p : Int) == (s.length : Int)) = false := by rw [beq_eq_false_iff_ne]; omega
        have gE' : (p == s.length) = false := by rw [beq_eq_false_iff_ne]; omega
        have hext := HX.out
        clear HX
        go_wp2
        refine wp_loop_rounds 6 ?_
        rw [rounds_succ]
        go_wp2
        rw [rounds_succ]
        go_wp2
        rw [rounds_succ]
        go_wp2
        rw [rounds_succ]
        go_wp2
        rw [rounds_succ]
        go_wp2
        rw [rounds_succ]
        go_wp2
        go_ret2
        exact ⟨rfl, ba (Below.refl _ _)⟩
      · have q59 : ((c.toNat : Int) == 59) = false := nat_ne (b := 59) h59
        have q59' : ((c.toNat : Int) != 59) = true := by rw [bne, q59]; rfl
        have HN : Hid (p + 1 + semi (s.drop (p + 1)) = E) := Lib.hid (by
          have h := HP.out
          rw [hd] at h
          have h2 : semi (c :: s.drop (p + 1)) = semi (s.drop (p + 1)) + 1 := by
            show (if c = 59 then 0 else _) = _
            rw [if_neg h59]
          omega)
        clear HP hc hd h59 HX
        go_wp2
        go_roundw
        case rel => exact ⟨p + 1, by go_num, by omega, HN, trivial⟩
        case measure => simp [intOf]; omega
    · exfalso
      have h := HP.out
      rw [List.drop_eq_nil_iff.2 (by omega)] at h
      have h0 : semi [] = 0 := rfl
      omega
theorem refc_hb (s M : List UInt8) (i E N : Nat) (hs : s.length ≤ 70000) (hiE : i + 1 ≤ E) (hEl : E < s.length) (HE : Hid (i + semi (s.drop i) = E)) (HX : Hid ((ba' s).extract (i + 1) E = ba' M)) (sm : (ba' M).size = N) (hN7 : N ≤ 70000)
    (e0 : ((ba' M).toList == [108, 116]) = false) (e1 : ((ba' M).toList == [103, 116]) = false) (e2 : ((ba' M).toList == [97, 109, 112]) = false) (e3 : ((ba' M).toList == [113, 117, 111, 116]) = false) (e4 : ((ba' M).toList == [97, 112, 111, 115]) = false) (a c2 : UInt8) (hx0 : ∀ h : 0 < (ba' M).size, (ba' M)[0]'h = a) (hx1 : ∀ h : 1 < (ba' M).size, (ba' M)[1]'h = c2) (q35 : ((a.toNat : Int) == 35) = false) (q120 : ((c2.toNat : Int) == 120) = true) (hN2 : 2 < N) (w : World) :
    Calls Tryz.prog 29 #[.string (ba' s), .int .i64 (i : Nat)] w fun e w' => e = .returned (RefNo) ∧ Below w.heap.size w w' := by
  have s1 : (ba' s).size = s.length := size_ba s
  have x0' : 0 < (ba' M).size := by omega
  have x1' : 1 < (ba' M).size := by omega
  have x0 := hx0 x0'
  have x1 := hx1 x1'
  clear hx0 hx1
  have q35n : ((a.toNat : Int) != 35) = true := by rw [bne, q35]; rfl
  have a1 : decide ((N : Int) > 1) = true := by simp; omega
  have a1' : decide ((1 : Int) < (N : Int)) = true := by simp; omega
  have a1'' : decide (1 < N) = true := by simp; omega
  have a2 : decide ((N : Int) ≤ 2) = false := by simp; omega
  have a2' : decide (N ≤ 2) = false := by simp; omega
  clear hN2
  go_enter Tryz.func29, Tryz.ntmps29
  go_wp2
  go_loopw [6] (fun s6 wx => ∃ p : Nat, s6 = .int .i64 (p : Nat) ∧ p ≤ s.length ∧ Hid (p + semi (s.drop p) = E) ∧ wx = w) (fun s6 _ => s.length - (intOf s6).toNat)
  case atStart => exact ⟨i, rfl, by omega, HE, rfl⟩
  case round =>
    obtain ⟨p, rfl, hp, HP, hww⟩ := hrel
    obtain rfl := hww.symm
    clear HE hww
    by_cases hlt : p < s.length
    · have g1 : decide ((p : Int) < (s.length : Int)) = true := by simp; omega
      have g1' : decide (p < s.length) = true := by simpa using hlt
      have hlt' : p < (ba' s).size := by omega
      obtain ⟨c, hc⟩ : ∃ c, s[p]'hlt = c := ⟨_, rfl⟩
      have ec : (ba' s)[p]'hlt' = c := hc
      have hd : s.drop p = c :: s.drop (p + 1) := by rw [List.drop_eq_getElem_cons hlt, hc]
      by_cases h59 : c = 59
      · have hPE : p = E := by
          have h := HP.out
          rw [hd, h59] at h
          rw [← h]
          show p = p + (if (59 : UInt8) = 59 then 0 else _)
          rw [if_pos rfl]
          rfl
        have q59 : ((c.toNat : Int) == 59) = true := by rw [h59]; rfl
        have q59' : ((c.toNat : Int) != 59) = false := by rw [bne, q59]; rfl
        clear hd hc h59 HP
        subst hPE
        have gE : ((p : Int) == (s.length : Int)) = false := by rw [beq_eq_false_iff_ne]; omega
        have gE' : (p == s.length) = false := by rw [beq_eq_false_iff_ne]; omega
        have hext := HX.out
        clear HX
        go_wp2
        refine wp_loop_rounds 6 ?_
        rw [rounds_succ]
        go_wp2
        rw [rounds_succ]
        go_wp2
        rw [rounds_succ]
        go_wp2
        rw [rounds_succ]
        go_wp2
        rw [rounds_succ]
        go_wp2
        rw [rounds_succ]
        go_wp2
        go_ret2
        exact ⟨rfl, ba (Below.refl _ _)⟩
      · have q59 : ((c.toNat : Int) == 59) = false := nat_ne (b := 59) h59
        have q59' : ((c.toNat : Int) != 59) = true := by rw [bne, q59]; rfl
        have HN : Hid (p + 1 + semi (s.drop (p + 1)) = E) := Lib.hid (by
          have h := HP.out
          rw [hd] at h
          have h2 : semi (c :: s.drop (p + 1)) = semi (s.drop (p + 1)) + 1 := by
            show (if c = 59 then 0 else _) = _
            rw [if_neg h59]
          omega)
        clear HP hc hd h59 HX
        go_wp2
        go_roundw
        case rel => exact ⟨p + 1, by go_num, by omega, HN, trivial⟩
        case measure => simp [intOf]; omega
    · exfalso
      have h := HP.out
      rw [List.drop_eq_nil_iff.2 (by omega)] at h
      have h0 : semi [] = 0 := rfl
      omega
theorem refc_hc (s M : List UInt8) (i E N : Nat) (hs : s.length ≤ 70000) (hiE : i + 1 ≤ E) (hEl : E < s.length) (HE : Hid (i + semi (s.drop i) = E)) (HX : Hid ((ba' s).extract (i + 1) E = ba' M)) (sm : (ba' M).size = N) (hN7 : N ≤ 70000)
    (e0 : ((ba' M).toList == [108, 116]) = false) (e1 : ((ba' M).toList == [103, 116]) = false) (e2 : ((ba' M).toList == [97, 109, 112]) = false) (e3 : ((ba' M).toList == [113, 117, 111, 116]) = false) (e4 : ((ba' M).toList == [97, 112, 111, 115]) = false) (a c2 : UInt8) (hx0 : ∀ h : 0 < (ba' M).size, (ba' M)[0]'h = a) (hx1 : ∀ h : 1 < (ba' M).size, (ba' M)[1]'h = c2) (q35 : ((a.toNat : Int) == 35) = false) (q120 : ((c2.toNat : Int) == 120) = false) (hN2 : 1 < N) (w : World) :
    Calls Tryz.prog 29 #[.string (ba' s), .int .i64 (i : Nat)] w fun e w' => e = .returned (RefNo) ∧ Below w.heap.size w w' := by
  have s1 : (ba' s).size = s.length := size_ba s
  have x0' : 0 < (ba' M).size := by omega
  have x1' : 1 < (ba' M).size := by omega
  have x0 := hx0 x0'
  have x1 := hx1 x1'
  clear hx0 hx1
  have q35n : ((a.toNat : Int) != 35) = true := by rw [bne, q35]; rfl
  have a1 : decide ((N : Int) > 1) = true := by simp; omega
  have a1' : decide ((1 : Int) < (N : Int)) = true := by simp; omega
  have a1'' : decide (1 < N) = true := by simp; omega
  have a2 : decide ((N : Int) ≤ 1) = false := by simp; omega
  have a2' : decide (N ≤ 1) = false := by simp; omega
  clear hN2
  go_enter Tryz.func29, Tryz.ntmps29
  go_wp2
  go_loopw [6] (fun s6 wx => ∃ p : Nat, s6 = .int .i64 (p : Nat) ∧ p ≤ s.length ∧ Hid (p + semi (s.drop p) = E) ∧ wx = w) (fun s6 _ => s.length - (intOf s6).toNat)
  case atStart => exact ⟨i, rfl, by omega, HE, rfl⟩
  case round =>
    obtain ⟨p, rfl, hp, HP, hww⟩ := hrel
    obtain rfl := hww.symm
    clear HE hww
    by_cases hlt : p < s.length
    · have g1 : decide ((p : Int) < (s.length : Int)) = true := by simp; omega
      have g1' : decide (p < s.length) = true := by simpa using hlt
      have hlt' : p < (ba' s).size := by omega
      obtain ⟨c, hc⟩ : ∃ c, s[p]'hlt = c := ⟨_, rfl⟩
      have ec : (ba' s)[p]'hlt' = c := hc
      have hd : s.drop p = c :: s.drop (p + 1) := by rw [List.drop_eq_getElem_cons hlt, hc]
      by_cases h59 : c = 59
      · have hPE : p = E := by
          have h := HP.out
          rw [hd, h59] at h
          rw [← h]
          show p = p + (if (59 : UInt8) = 59 then 0 else _)
          rw [if_pos rfl]
          rfl
        have q59 : ((c.toNat : Int) == 59) = true := by rw [h59]; rfl
        have q59' : ((c.toNat : Int) != 59) = false := by rw [bne, q59]; rfl
        clear hd hc h59 HP
        subst hPE
        have gE : ((p : Int) == (s.length : Int)) = false := by rw [beq_eq_false_iff_ne]; omega
        have gE' : (p == s.length) = false := by rw [beq_eq_false_iff_ne]; omega
        have hext := HX.out
        clear HX
        go_wp2
        refine wp_loop_rounds 6 ?_
        rw [rounds_succ]
        go_wp2
        rw [rounds_succ]
        go_wp2
        rw [rounds_succ]
        go_wp2
        rw [rounds_succ]
        go_wp2
        rw [rounds_succ]
        go_wp2
        rw [rounds_succ]
        go_wp2
        go_ret2
        exact ⟨rfl, ba (Below.refl _ _)⟩
      · have q59 : ((c.toNat : Int) == 59) = false := nat_ne (b := 59) h59
        have q59' : ((c.toNat : Int) != 59) = true := by rw [bne, q59]; rfl
        have HN : Hid (p + 1 + semi (s.drop (p + 1)) = E) := Lib.hid (by
          have h := HP.out
          rw [hd] at h
          have h2 : semi (c :: s.drop (p + 1)) = semi (s.drop (p + 1)) + 1 := by
            show (if c = 59 then 0 else _) = _
            rw [if_neg h59]
          omega)
        clear HP hc hd h59 HX
        go_wp2
        go_roundw
        case rel => exact ⟨p + 1, by go_num, by omega, HN, trivial⟩
        case measure => simp [intOf]; omega
    · exfalso
      have h := HP.out
      rw [List.drop_eq_nil_iff.2 (by omega)] at h
      have h0 : semi [] = 0 := rfl
      omega
theorem refc_hd (s M : List UInt8) (i E N : Nat) (hs : s.length ≤ 70000) (hiE : i + 1 ≤ E) (hEl : E < s.length) (HE : Hid (i + semi (s.drop i) = E)) (HX : Hid ((ba' s).extract (i + 1) E = ba' M)) (sm : (ba' M).size = N) (hN7 : N ≤ 70000)
    (e0 : ((ba' M).toList == [108, 116]) = false) (e1 : ((ba' M).toList == [103, 116]) = false) (e2 : ((ba' M).toList == [97, 109, 112]) = false) (e3 : ((ba' M).toList == [113, 117, 111, 116]) = false) (e4 : ((ba' M).toList == [97, 112, 111, 115]) = false) (a c2 : UInt8) (hx0 : ∀ h : 0 < (ba' M).size, (ba' M)[0]'h = a) (hx1 : ∀ h : 1 < (ba' M).size, (ba' M)[1]'h = c2) (q35 : ((a.toNat : Int) == 35) = true) (q120 : ((c2.toNat : Int) == 120) = true) (hN2 : N = 2) (w : World) :
    Calls Tryz.prog 29 #[.string (ba' s), .int .i64 (i : Nat)] w fun e w' => e = .returned (RefNo) ∧ Below w.heap.size w w' := by
  have s1 : (ba' s).size = s.length := size_ba s
  have x0' : 0 < (ba' M).size := by omega
  have x1' : 1 < (ba' M).size := by omega
  have x0 := hx0 x0'
  have x1 := hx1 x1'
  clear hx0 hx1
  have q35n : ((a.toNat : Int) != 35) = false := by rw [bne, q35]; rfl
  have a1 : decide ((N : Int) > 1) = true := by simp; omega
  have a1' : decide ((1 : Int) < (N : Int)) = true := by simp; omega
  have a1'' : decide (1 < N) = true := by simp; omega
  have a2 : decide ((N : Int) ≤ 2) = true := by simp; omega
  have a2' : decide (N ≤ 2) = true := by simp; omega
  clear hN2
  go_enter Tryz.func29, Tryz.ntmps29
  go_wp2
  go_loopw [6] (fun s6 wx => ∃ p : Nat, s6 = .int .i64 (p : Nat) ∧ p ≤ s.length ∧ Hid (p + semi (s.drop p) = E) ∧ wx = w) (fun s6 _ => s.length - (intOf s6).toNat)
  case atStart => exact ⟨i, rfl, by omega, HE, rfl⟩
  case round =>
    obtain ⟨p, rfl, hp, HP, hww⟩ := hrel
    obtain rfl := hww.symm
    clear HE hww
    by_cases hlt : p < s.length
    · have g1 : decide ((p : Int) < (s.length : Int)) = true := by simp; omega
      have g1' : decide (p < s.length) = true := by simpa using hlt
      have hlt' : p < (ba' s).size := by omega
      obtain ⟨c, hc⟩ : ∃ c, s[p]'hlt = c := ⟨_, rfl⟩
      have ec : (ba' s)[p]'hlt' = c := hc
      have hd : s.drop p = c :: s.drop (p + 1) := by rw [List.drop_eq_getElem_cons hlt, hc]
      by_cases h59 : c = 59
      · have hPE : p = E := by
          have h := HP.out
          rw [hd, h59] at h
          rw [← h]
          show p = p + (if (59 : UInt8) = 59 then 0 else _)
          rw [if_pos rfl]
          rfl
        have q59 : ((c.toNat : Int) == 59) = true := by rw [h59]; rfl
        have q59' : ((c.toNat : Int) != 59) = false := by rw [bne, q59]; rfl
        clear hd hc h59 HP
        subst hPE
        have gE : ((p : Int) == (s.length : Int)) = false := by rw [beq_eq_false_iff_ne]; omega
        have gE' : (p == s.length) = false := by rw [beq_eq_false_iff_ne]; omega
        have hext := HX.out
        clear HX
        go_wp2
        refine wp_loop_rounds 6 ?_
        rw [rounds_succ]
        go_wp2
        rw [rounds_succ]
        go_wp2
        rw [rounds_succ]
        go_wp2
        rw [rounds_succ]
        go_wp2
        rw [rounds_succ]
        go_wp2
        rw [rounds_succ]
        go_wp2
        go_ret2
        exact ⟨rfl, ba (Below.refl _ _)⟩
      · have q59 : ((c.toNat : Int) == 59) = false := nat_ne (b := 59) h59
        have q59' : ((c.toNat : Int) != 59) = true := by rw [bne, q59]; rfl
        have HN : Hid (p + 1 + semi (s.drop (p + 1)) = E) := Lib.hid (by
          have h := HP.out
          rw [hd] at h
          have h2 : semi (c :: s.drop (p + 1)) = semi (s.drop (p + 1)) + 1 := by
            show (if c = 59 then 0 else _) = _
            rw [if_neg h59]
          omega)
        clear HP hc hd h59 HX
        go_wp2
        go_roundw
        case rel => exact ⟨p + 1, by go_num, by omega, HN, trivial⟩
        case measure => simp [intOf]; omega
    · exfalso
      have h := HP.out
      rw [List.drop_eq_nil_iff.2 (by omega)] at h
      have h0 : semi [] = 0 := rfl
      omega
theorem refc_hex (s M : List UInt8) (i E N : Nat) (hs : s.length ≤ 70000) (hiE : i + 1 ≤ E) (hEl : E < s.length) (HE : Hid (i + semi (s.drop i) = E)) (HX : Hid ((ba' s).extract (i + 1) E = ba' M)) (sm : (ba' M).size = N) (hN7 : N ≤ 70000)
    (e0 : ((ba' M).toList == [108, 116]) = false) (e1 : ((ba' M).toList == [103, 116]) = false) (e2 : ((ba' M).toList == [97, 109, 112]) = false) (e3 : ((ba' M).toList == [113, 117, 111, 116]) = false) (e4 : ((ba' M).toList == [97, 112, 111, 115]) = false) (a c2 : UInt8) (hx0 : ∀ h : 0 < (ba' M).size, (ba' M)[0]'h = a) (hx1 : ∀ h : 1 < (ba' M).size, (ba' M)[1]'h = c2) (q35 : ((a.toNat : Int) == 35) = true) (q120 : ((c2.toNat : Int) == 120) = true) (hN2 : 2 < N) (V : Value) (HR : Hid (V = rv (E + 1) ((refGo 16 (M.drop 2) 0).bind chF))) (w : World) :
    Calls Tryz.prog 29 #[.string (ba' s), .int .i64 (i : Nat)] w fun e w' => e = .returned (V) ∧ Below w.heap.size w w' := by
  have s1 : (ba' s).size = s.length := size_ba s
  have x0' : 0 < (ba' M).size := by omega
  have x1' : 1 < (ba' M).size := by omega
  have x0 := hx0 x0'
  have x1 := hx1 x1'
  clear hx0 hx1
  have q35n : ((a.toNat : Int) != 35) = false := by rw [bne, q35]; rfl
  have a1 : decide ((N : Int) > 1) = true := by simp; omega
  have a1' : decide ((1 : Int) < (N : Int)) = true := by simp; omega
  have a1'' : decide (1 < N) = true := by simp; omega
  have a2 : decide ((N : Int) ≤ 2) = false := by simp; omega
  have a2' : decide (N ≤ 2) = false := by simp; omega
  go_enter Tryz.func29, Tryz.ntmps29
  go_wp2
  go_loopw [6] (fun s6 wx => ∃ p : Nat, s6 = .int .i64 (p : Nat) ∧ p ≤ s.length ∧ Hid (p + semi (s.drop p) = E) ∧ wx = w) (fun s6 _ => s.length - (intOf s6).toNat)
  case atStart => exact ⟨i, rfl, by omega, HE, rfl⟩
  case round =>
    obtain ⟨p, rfl, hp, HP, hww⟩ := hrel
    obtain rfl := hww.symm
    clear HE hww
    by_cases hlt : p < s.length
    · have g1 : decide ((p : Int) < (s.length : Int)) = true := by simp; omega
      have g1' : decide (p < s.length) = true := by simpa using hlt
      have hlt' : p < (ba' s).size := by omega
      obtain ⟨c, hc⟩ : ∃ c, s[p]'hlt = c := ⟨_, rfl⟩
      have ec : (ba' s)[p]'hlt' = c := hc
      have hd : s.drop p = c :: s.drop (p + 1) := by rw [List.drop_eq_getElem_cons hlt, hc]
      by_cases h59 : c = 59
      · have hPE : p = E := by
          have h := HP.out
          rw [hd, h59] at h
          rw [← h]
          show p = p + (if (59 : UInt8) = 59 then 0 else _)
          rw [if_pos rfl]
          rfl
        have q59 : ((c.toNat : Int) == 59) = true := by rw [h59]; rfl
        have q59' : ((c.toNat : Int) != 59) = false := by rw [bne, q59]; rfl
        clear hd hc h59 HP
        subst hPE
        have gE : ((p : Int) == (s.length : Int)) = false := by rw [beq_eq_false_iff_ne]; omega
        have gE' : (p == s.length) = false := by rw [beq_eq_false_iff_ne]; omega
        have hext := HX.out
        clear HX
        go_wp2
        refine wp_loop_rounds 6 ?_
        rw [rounds_succ]
        go_wp2
        rw [rounds_succ]
        go_wp2
        rw [rounds_succ]
        go_wp2
        rw [rounds_succ]
        go_wp2
        rw [rounds_succ]
        go_wp2
        rw [rounds_succ]
        go_wp2
        have HK0 : Hid (2 ≤ N) := Lib.hid (by omega)
        clear x0 x1 x0' x1' q35 q35n q120 e0 e1 e2 e3 e4 hext ec a1 a1' a1'' a2 a2' hN2
        go_loopw [11, 12] (fun s11 s12 wx => ∃ (k n : Nat), s11 = .int .i64 (k : Nat) ∧ s12 = .int .i64 (n : Nat) ∧ k ≤ N ∧ n ≤ 5000000 ∧ Hid (V = rv (p + 1) ((refGo 16 (M.drop k) n).bind chF)) ∧ Hid (Below w.heap.size w wx)) (fun s11 _ _ => N - (intOf s11).toNat)
        case atStart => exact ⟨2, 0, rfl, rfl, HK0.out, by omega, HR, Lib.hid (ba (Below.refl _ _))⟩
        case round =>
          obtain ⟨k, n, rfl, rfl, hk, hn, HG, HB⟩ := hrel
          clear HR
          by_cases hkl : k < N
          · have b1 : decide ((k : Int) < (N : Int)) = true := by simp; omega
            have b1' : decide (k < N) = true := by simpa using hkl
            have hkl' : k < (ba' M).size := by omega
            have hkm : k < M.length := by rw [← size_ba]; omega
            obtain ⟨d, hd⟩ : ∃ d, M[k]'hkm = d := ⟨_, rfl⟩
            have ed : (ba' M)[k]'hkl' = d := hd
            have HD : Hid (M.drop k = d :: M.drop (k + 1)) := Lib.hid (by rw [List.drop_eq_getElem_cons hkm, hd])
            have HVL : Hid (∀ W, Calls Tryz.prog 52 #[.int .u8 (d.toNat : Int)] W fun e w' => e = .returned (.int .i64 (valF d : Nat)) ∧ w' = W) := Lib.hid fun W => val_any d W
            have hst := HG.out
            rw [HD.out] at hst
            unfold refGo at hst
            obtain ⟨v, hv⟩ : ∃ v, valF d = v := ⟨_, rfl⟩
            have hv9 : v ≤ 99 := by
              have h : ∀ n : Fin 256, valF (UInt8.ofNat n.val) ≤ 99 := by decide +kernel
              have := h ⟨d.toNat, d.toNat_lt⟩
              simp only [UInt8.ofNat_toNat] at this
              omega
            rw [hv] at hst HVL
            have HST := Lib.hid hst
            clear hst hv HG hd HD
            by_cases hvb : 16 ≤ v
            · have b2 : decide ((v : Int) ≥ 16) = true := by simp; omega
              have b2' : decide ((16 : Int) ≤ (v : Int)) = true := by simp; omega
              have b2'' : decide (16 ≤ v) = true := by simp; omega
              have HV9 : Hid (V = RefNo) := Lib.hid (by
                have h := HST.out
                rw [if_pos hvb] at h
                exact h)
              clear HST
              go_wp2_with fail
              refine (HVL.out _).mono ?_
              rintro e w3 ⟨rfl, rfl⟩
              go_wp2
              go_ret2
              exact ⟨by rw [HV9.out]; rfl, HB.out⟩
            · have b2 : decide ((v : Int) ≥ 16) = false := by simp; omega
              have b2' : decide ((16 : Int) ≤ (v : Int)) = false := by simp; omega
              have b2'' : decide (16 ≤ v) = false := by simp; omega
              have HV9 : Hid (V = rv (p + 1) ((refGo 16 (M.drop (k + 1)) (min (16 * n + v) 5000000)).bind chF)) := Lib.hid (by
                have h := HST.out
                rw [if_neg hvb] at h
                exact h)
              clear HST
              go_wp2_with fail
              refine (HVL.out _).mono ?_
              rintro e w3 ⟨rfl, rfl⟩
              go_wp2_with fail
              refine (HVL.out _).mono ?_
              rintro e w4 ⟨rfl, rfl⟩
              go_wp2
              go_roundw
              case rel => exact ⟨k + 1, min (16 * n + v) 5000000, by go_num, by first | rfl | go_num | (congr 1; omega), by omega, Nat.min_le_right _ _, HV9, HB⟩
              case measure => simp [intOf]; omega
          · obtain rfl : k = N := by omega
            have HG2 : Hid (V = rv (p + 1) (chF n)) := Lib.hid (by
              have h := HG.out
              have hNl : M.length = k := by rw [← size_ba]; exact sm
              rw [← hNl, List.drop_length] at h
              exact h)
            have HXM := Lib.hid fun W => xml_any (n : Int) W
            obtain ⟨b, hb⟩ : ∃ b, xmlB (n : Int) = b := ⟨_, rfl⟩
            rw [hb] at HXM
            cases b with
            | false =>
              have HV9 : Hid (V = RefNo) := Lib.hid (by
                rw [HG2.out]
                unfold chF
                rw [hb]
                rfl)
              clear HG HG2 hb
              go_wp2_with fail
              refine (HXM.out _).mono ?_
              rintro e w3 ⟨rfl, rfl⟩
              go_wp2
              go_ret2
              exact ⟨by rw [HV9.out]; rfl, HB.out⟩
            | true =>
              have HV9 : Hid (V = rv (p + 1) (some (enc n))) := Lib.hid (by
                rw [HG2.out]
                unfold chF
                rw [hb]
                rfl)
              have HON : Hid (∀ W, Calls Tryz.prog 53 #[.int .i64 (n : Int)] W (strPost W.heap.size W (enc n))) := Lib.hid fun W => one_any n (xml_ok hb) W
              clear HG HG2 hb
              go_wp2_with fail
              refine (HXM.out _).mono ?_
              rintro e w3 ⟨rfl, rfl⟩
              go_wp2_with fail
              refine (HON.out _).mono ?_
              rintro e w4 ⟨o, rfl, ho, hb4⟩
              have HO := Lib.hid ho
              have HB4 := Lib.hid (bt HB.out hb4)
              clear ho hb4
              go_wp2
              go_ret2
              refine ⟨?_, HB4.out⟩
              rw [HV9.out, ← HO.out]
              rfl
      · have q59 : ((c.toNat : Int) == 59) = false := nat_ne (b := 59) h59
        have q59' : ((c.toNat : Int) != 59) = true := by rw [bne, q59]; rfl
        have HN : Hid (p + 1 + semi (s.drop (p + 1)) = E) := Lib.hid (by
          have h := HP.out
          rw [hd] at h
          have h2 : semi (c :: s.drop (p + 1)) = semi (s.drop (p + 1)) + 1 := by
            show (if c = 59 then 0 else _) = _
            rw [if_neg h59]
          omega)
        clear HP hc hd h59 HX
        go_wp2
        go_roundw
        case rel => exact ⟨p + 1, by go_num, by omega, HN, trivial⟩
        case measure => simp [intOf]; omega
    · exfalso
      have h := HP.out
      rw [List.drop_eq_nil_iff.2 (by omega)] at h
      have h0 : semi [] = 0 := rfl
      omega
theorem refc_dec (s M : List UInt8) (i E N : Nat) (hs : s.length ≤ 70000) (hiE : i + 1 ≤ E) (hEl : E < s.length) (HE : Hid (i + semi (s.drop i) = E)) (HX : Hid ((ba' s).extract (i + 1) E = ba' M)) (sm : (ba' M).size = N) (hN7 : N ≤ 70000)
    (e0 : ((ba' M).toList == [108, 116]) = false) (e1 : ((ba' M).toList == [103, 116]) = false) (e2 : ((ba' M).toList == [97, 109, 112]) = false) (e3 : ((ba' M).toList == [113, 117, 111, 116]) = false) (e4 : ((ba' M).toList == [97, 112, 111, 115]) = false) (a c2 : UInt8) (hx0 : ∀ h : 0 < (ba' M).size, (ba' M)[0]'h = a) (hx1 : ∀ h : 1 < (ba' M).size, (ba' M)[1]'h = c2) (q35 : ((a.toNat : Int) == 35) = true) (q120 : ((c2.toNat : Int) == 120) = false) (hN2 : 1 < N) (V : Value) (HR : Hid (V = rv (E + 1) ((refGo 10 (M.drop 1) 0).bind chF))) (w : World) :
    Calls Tryz.prog 29 #[.string (ba' s), .int .i64 (i : Nat)] w fun e w' => e = .returned (V) ∧ Below w.heap.size w w' := by
  have s1 : (ba' s).size = s.length := size_ba s
  have x0' : 0 < (ba' M).size := by omega
  have x1' : 1 < (ba' M).size := by omega
  have x0 := hx0 x0'
  have x1 := hx1 x1'
  clear hx0 hx1
  have q35n : ((a.toNat : Int) != 35) = false := by rw [bne, q35]; rfl
  have a1 : decide ((N : Int) > 1) = true := by simp; omega
  have a1' : decide ((1 : Int) < (N : Int)) = true := by simp; omega
  have a1'' : decide (1 < N) = true := by simp; omega
  have a2 : decide ((N : Int) ≤ 1) = false := by simp; omega
  have a2' : decide (N ≤ 1) = false := by simp; omega
  go_enter Tryz.func29, Tryz.ntmps29
  go_wp2
  go_loopw [6] (fun s6 wx => ∃ p : Nat, s6 = .int .i64 (p : Nat) ∧ p ≤ s.length ∧ Hid (p + semi (s.drop p) = E) ∧ wx = w) (fun s6 _ => s.length - (intOf s6).toNat)
  case atStart => exact ⟨i, rfl, by omega, HE, rfl⟩
  case round =>
    obtain ⟨p, rfl, hp, HP, hww⟩ := hrel
    obtain rfl := hww.symm
    clear HE hww
    by_cases hlt : p < s.length
    · have g1 : decide ((p : Int) < (s.length : Int)) = true := by simp; omega
      have g1' : decide (p < s.length) = true := by simpa using hlt
      have hlt' : p < (ba' s).size := by omega
      obtain ⟨c, hc⟩ : ∃ c, s[p]'hlt = c := ⟨_, rfl⟩
      have ec : (ba' s)[p]'hlt' = c := hc
      have hd : s.drop p = c :: s.drop (p + 1) := by rw [List.drop_eq_getElem_cons hlt, hc]
      by_cases h59 : c = 59
      · have hPE : p = E := by
          have h := HP.out
          rw [hd, h59] at h
          rw [← h]
          show p = p + (if (59 : UInt8) = 59 then 0 else _)
          rw [if_pos rfl]
          rfl
        have q59 : ((c.toNat : Int) == 59) = true := by rw [h59]; rfl
        have q59' : ((c.toNat : Int) != 59) = false := by rw [bne, q59]; rfl
        clear hd hc h59 HP
        subst hPE
        have gE : ((p : Int) == (s.length : Int)) = false := by rw [beq_eq_false_iff_ne]; omega
        have gE' : (p == s.length) = false := by rw [beq_eq_false_iff_ne]; omega
        have hext := HX.out
        clear HX
        go_wp2
        refine wp_loop_rounds 6 ?_
        rw [rounds_succ]
        go_wp2
        rw [rounds_succ]
        go_wp2
        rw [rounds_succ]
        go_wp2
        rw [rounds_succ]
        go_wp2
        rw [rounds_succ]
        go_wp2
        rw [rounds_succ]
        go_wp2
        have HK0 : Hid (1 ≤ N) := Lib.hid (by omega)
        clear x0 x1 x0' x1' q35 q35n q120 e0 e1 e2 e3 e4 hext ec a1 a1' a1'' a2 a2' hN2
        go_loopw [11, 12] (fun s11 s12 wx => ∃ (k n : Nat), s11 = .int .i64 (k : Nat) ∧ s12 = .int .i64 (n : Nat) ∧ k ≤ N ∧ n ≤ 5000000 ∧ Hid (V = rv (p + 1) ((refGo 10 (M.drop k) n).bind chF)) ∧ Hid (Below w.heap.size w wx)) (fun s11 _ _ => N - (intOf s11).toNat)
        case atStart => exact ⟨1, 0, rfl, rfl, HK0.out, by omega, HR, Lib.hid (ba (Below.refl _ _))⟩
        case round =>
          obtain ⟨k, n, rfl, rfl, hk, hn, HG, HB⟩ := hrel
          clear HR
          by_cases hkl : k < N
          · have b1 : decide ((k : Int) < (N : Int)) = true := by simp; omega
            have b1' : decide (k < N) = true := by simpa using hkl
            have hkl' : k < (ba' M).size := by omega
            have hkm : k < M.length := by rw [← size_ba]; omega
            obtain ⟨d, hd⟩ : ∃ d, M[k]'hkm = d := ⟨_, rfl⟩
            have ed : (ba' M)[k]'hkl' = d := hd
            have HD : Hid (M.drop k = d :: M.drop (k + 1)) := Lib.hid (by rw [List.drop_eq_getElem_cons hkm, hd])
            have HVL : Hid (∀ W, Calls Tryz.prog 52 #[.int .u8 (d.toNat : Int)] W fun e w' => e = .returned (.int .i64 (valF d : Nat)) ∧ w' = W) := Lib.hid fun W => val_any d W
            have hst := HG.out
            rw [HD.out] at hst
            unfold refGo at hst
            obtain ⟨v, hv⟩ : ∃ v, valF d = v := ⟨_, rfl⟩
            have hv9 : v ≤ 99 := by
              have h : ∀ n : Fin 256, valF (UInt8.ofNat n.val) ≤ 99 := by decide +kernel
              have := h ⟨d.toNat, d.toNat_lt⟩
              simp only [UInt8.ofNat_toNat] at this
              omega
            rw [hv] at hst HVL
            have HST := Lib.hid hst
            clear hst hv HG hd HD
            by_cases hvb : 10 ≤ v
            · have b2 : decide ((v : Int) ≥ 10) = true := by simp; omega
              have b2' : decide ((10 : Int) ≤ (v : Int)) = true := by simp; omega
              have b2'' : decide (10 ≤ v) = true := by simp; omega
              have HV9 : Hid (V = RefNo) := Lib.hid (by
                have h := HST.out
                rw [if_pos hvb] at h
                exact h)
              clear HST
              go_wp2_with fail
              refine (HVL.out _).mono ?_
              rintro e w3 ⟨rfl, rfl⟩
              go_wp2
              go_ret2
              exact ⟨by rw [HV9.out]; rfl, HB.out⟩
            · have b2 : decide ((v : Int) ≥ 10) = false := by simp; omega
              have b2' : decide ((10 : Int) ≤ (v : Int)) = false := by simp; omega
              have b2'' : decide (10 ≤ v) = false := by simp; omega
              have HV9 : Hid (V = rv (p + 1) ((refGo 10 (M.drop (k + 1)) (min (10 * n + v) 5000000)).bind chF)) := Lib.hid (by
                have h := HST.out
                rw [if_neg hvb] at h
                exact h)
              clear HST
              go_wp2_with fail
              refine (HVL.out _).mono ?_
              rintro e w3 ⟨rfl, rfl⟩
              go_wp2_with fail
              refine (HVL.out _).mono ?_
              rintro e w4 ⟨rfl, rfl⟩
              go_wp2
              go_roundw
              case rel => exact ⟨k + 1, min (10 * n + v) 5000000, by go_num, by first | rfl | go_num | (congr 1; omega), by omega, Nat.min_le_right _ _, HV9, HB⟩
              case measure => simp [intOf]; omega
          · obtain rfl : k = N := by omega
            have HG2 : Hid (V = rv (p + 1) (chF n)) := Lib.hid (by
              have h := HG.out
              have hNl : M.length = k := by rw [← size_ba]; exact sm
              rw [← hNl, List.drop_length] at h
              exact h)
            have HXM := Lib.hid fun W => xml_any (n : Int) W
            obtain ⟨b, hb⟩ : ∃ b, xmlB (n : Int) = b := ⟨_, rfl⟩
            rw [hb] at HXM
            cases b with
            | false =>
              have HV9 : Hid (V = RefNo) := Lib.hid (by
                rw [HG2.out]
                unfold chF
                rw [hb]
                rfl)
              clear HG HG2 hb
              go_wp2_with fail
              refine (HXM.out _).mono ?_
              rintro e w3 ⟨rfl, rfl⟩
              go_wp2
              go_ret2
              exact ⟨by rw [HV9.out]; rfl, HB.out⟩
            | true =>
              have HV9 : Hid (V = rv (p + 1) (some (enc n))) := Lib.hid (by
                rw [HG2.out]
                unfold chF
                rw [hb]
                rfl)
              have HON : Hid (∀ W, Calls Tryz.prog 53 #[.int .i64 (n : Int)] W (strPost W.heap.size W (enc n))) := Lib.hid fun W => one_any n (xml_ok hb) W
              clear HG HG2 hb
              go_wp2_with fail
              refine (HXM.out _).mono ?_
              rintro e w3 ⟨rfl, rfl⟩
              go_wp2_with fail
              refine (HON.out _).mono ?_
              rintro e w4 ⟨o, rfl, ho, hb4⟩
              have HO := Lib.hid ho
              have HB4 := Lib.hid (bt HB.out hb4)
              clear ho hb4
              go_wp2
              go_ret2
              refine ⟨?_, HB4.out⟩
              rw [HV9.out, ← HO.out]
              rfl
      · have q59 : ((c.toNat : Int) == 59) = false := nat_ne (b := 59) h59
        have q59' : ((c.toNat : Int) != 59) = true := by rw [bne, q59]; rfl
        have HN : Hid (p + 1 + semi (s.drop (p + 1)) = E) := Lib.hid (by
          have h := HP.out
          rw [hd] at h
          have h2 : semi (c :: s.drop (p + 1)) = semi (s.drop (p + 1)) + 1 := by
            show (if c = 59 then 0 else _) = _
            rw [if_neg h59]
          omega)
        clear HP hc hd h59 HX
        go_wp2
        go_roundw
        case rel => exact ⟨p + 1, by go_num, by omega, HN, trivial⟩
        case measure => simp [intOf]; omega
    · exfalso
      have h := HP.out
      rw [List.drop_eq_nil_iff.2 (by omega)] at h
      have h0 : semi [] = 0 := rfl
      omega
theorem refc_open (s : List UInt8) (i : Nat) (hs : s.length ≤ 70000) (hi : i ≤ s.length) (HE : Hid (i + semi (s.drop i) = s.length)) (w : World) :
    Calls Tryz.prog 29 #[.string (ba' s), .int .i64 (i : Nat)] w fun e w' => e = .returned RefNo ∧ Below w.heap.size w w' := by
  have s1 : (ba' s).size = s.length := size_ba s
  go_enter Tryz.func29, Tryz.ntmps29
  go_wp2
  go_loopw [6] (fun s6 wx => ∃ p : Nat, s6 = .int .i64 (p : Nat) ∧ p ≤ s.length ∧ Hid (p + semi (s.drop p) = s.length) ∧ wx = w) (fun s6 _ => s.length - (intOf s6).toNat)
  case atStart => exact ⟨i, rfl, hi, HE, rfl⟩
  case round =>
    obtain ⟨p, rfl, hp, HP, hww⟩ := hrel
    obtain rfl := hww.symm
    clear HE hww
    by_cases hlt : p < s.length
    · have g1 : decide ((p : Int) < (s.length : Int)) = true := by simp; omega
      have g1' : decide (p < s.length) = true := by simpa using hlt
      have hlt' : p < (ba' s).size := by omega
      obtain ⟨c, hc⟩ : ∃ c, s[p]'hlt = c := ⟨_, rfl⟩
      have ec : (ba' s)[p]'hlt' = c := hc
      have hd : s.drop p = c :: s.drop (p + 1) := by rw [List.drop_eq_getElem_cons hlt, hc]
      have h := HP.out
      rw [hd] at h
      have h2 : semi (c :: s.drop (p + 1)) = if c = 59 then 0 else semi (s.drop (p + 1)) + 1 := rfl
      by_cases h59 : c = 59
      · rw [if_pos h59] at h2
        omega
      · rw [if_neg h59] at h2
        have q59 : ((c.toNat : Int) == 59) = false := nat_ne (b := 59) h59
        have HN : Hid (p + 1 + semi (s.drop (p + 1)) = s.length) := Lib.hid (by omega)
        clear HP hc hd h59 h h2
        go_wp2
        go_roundw
        case rel => exact ⟨p + 1, by go_num, by omega, HN, trivial⟩
        case measure => simp [intOf]; omega
    · obtain rfl : p = s.length := by omega
      clear HP
      go_wp2
      go_ret2
      exact ⟨rfl, Below.refl _ _⟩
theorem refR_any (s : List UInt8) (i : Nat) (hs : s.length ≤ 70000) (hi : i < s.length) (hc : s.drop i = 38 :: s.drop (i + 1)) (w : World) : Calls Tryz.prog 29 #[.string (ba' s), .int .i64 (i : Nat)] w fun e w' => e = .returned (refV s.length (cutF (s.drop (i + 1)))) ∧ Below w.heap.size w w' := by
  obtain ⟨E, hE⟩ : ∃ E, i + semi (s.drop i) = E := ⟨_, rfl⟩
  have hE1 : i + 1 + semi (s.drop (i + 1)) = E := by
    rw [← hE, hc]
    show _ = i + (if (38 : UInt8) = 59 then 0 else semi _ + 1)
    rw [if_neg (by decide)]
    omega
  have hEl : E ≤ s.length := by have := semi_le (s.drop (i + 1)); rw [List.length_drop] at this; omega
  have hiE : i + 1 ≤ E := by omega
  rcases Nat.lt_or_ge E s.length with hlt | hge
  · obtain ⟨m, hm⟩ : ∃ m, (s.drop (i + 1)).take (E - (i + 1)) = m := ⟨_, rfl⟩
    have hml : m.length = E - (i + 1) := by rw [← hm, List.length_take, List.length_drop]; omega
    have hext : (ba' s).extract (i + 1) E = ba' m := by rw [cut_mid, hm]
    have hV : refV s.length (cutF (s.drop (i + 1))) = rv (E + 1) (meanF m) := by
      rw [cutF_semi, if_pos (by rw [List.length_drop]; omega), show semi (s.drop (i + 1)) = E - (i + 1) by omega, hm]
      cases meanF m with
      | none => rfl
      | some x =>
        show Value.tuple #[.string (ba' x), .int .i64 ((s.length - ((s.drop (i + 1)).drop (E - (i + 1) + 1)).length : Nat) : Int)] = .tuple #[.string (ba' x), .int .i64 ((E + 1 : Nat) : Int)]
        rw [List.drop_drop, List.length_drop, show s.length - (s.length - (i + 1 + (E - (i + 1) + 1))) = E + 1 by omega]
    rw [hV]
    have sm : (ba' m).size = m.length := size_ba m
    have hN7 : m.length ≤ 70000 := by omega
    by_cases h0 : m = [108, 116]
    · have f0 : ((ba' m).toList == [108, 116]) = true := by rw [h0, toList_ba]; rfl
      have hv : rv (E + 1) (meanF m) = rv (E + 1) (some [60]) := by rw [h0]; rfl
      rw [hv]
      exact refc_n0 s m i E _ hs hiE hlt (Lib.hid hE) (Lib.hid hext) sm hN7  f0 w
    have f0 : ((ba' m).toList == [108, 116]) = false := by rw [toList_ba]; simpa using h0
    by_cases h1 : m = [103, 116]
    · have f1 : ((ba' m).toList == [103, 116]) = true := by rw [h1, toList_ba]; rfl
      have hv : rv (E + 1) (meanF m) = rv (E + 1) (some [62]) := by rw [h1]; rfl
      rw [hv]
      exact refc_n1 s m i E _ hs hiE hlt (Lib.hid hE) (Lib.hid hext) sm hN7 f0 f1 w
    have f1 : ((ba' m).toList == [103, 116]) = false := by rw [toList_ba]; simpa using h1
    by_cases h2 : m = [97, 109, 112]
    · have f2 : ((ba' m).toList == [97, 109, 112]) = true := by rw [h2, toList_ba]; rfl
      have hv : rv (E + 1) (meanF m) = rv (E + 1) (some [38]) := by rw [h2]; rfl
      rw [hv]
      exact refc_n2 s m i E _ hs hiE hlt (Lib.hid hE) (Lib.hid hext) sm hN7 f0 f1 f2 w
    have f2 : ((ba' m).toList == [97, 109, 112]) = false := by rw [toList_ba]; simpa using h2
    by_cases h3 : m = [113, 117, 111, 116]
    · have f3 : ((ba' m).toList == [113, 117, 111, 116]) = true := by rw [h3, toList_ba]; rfl
      have hv : rv (E + 1) (meanF m) = rv (E + 1) (some [34]) := by rw [h3]; rfl
      rw [hv]
      exact refc_n3 s m i E _ hs hiE hlt (Lib.hid hE) (Lib.hid hext) sm hN7 f0 f1 f2 f3 w
    have f3 : ((ba' m).toList == [113, 117, 111, 116]) = false := by rw [toList_ba]; simpa using h3
    by_cases h4 : m = [97, 112, 111, 115]
    · have f4 : ((ba' m).toList == [97, 112, 111, 115]) = true := by rw [h4, toList_ba]; rfl
      have hv : rv (E + 1) (meanF m) = rv (E + 1) (some [39]) := by rw [h4]; rfl
      rw [hv]
      exact refc_n4 s m i E _ hs hiE hlt (Lib.hid hE) (Lib.hid hext) sm hN7 f0 f1 f2 f3 f4 w
    have f4 : ((ba' m).toList == [97, 112, 111, 115]) = false := by rw [toList_ba]; simpa using h4
    have hM : meanF m = meanH m := by
      unfold meanF
      rw [if_neg h0, if_neg h1, if_neg h2, if_neg h3, if_neg h4]
    rw [hM]
    rcases m with _ | ⟨a, _ | ⟨c2, t⟩⟩
    · exact refc_short s [] i E _ hs hiE hlt (Lib.hid hE) (Lib.hid hext) sm hN7 f0 f1 f2 f3 f4 (by decide) w
    · have hv : rv (E + 1) (meanH [a]) = RefNo := by
        show rv _ (if a = 35 then numF 10 [] else none) = _
        split <;> rfl
      rw [hv]
      exact refc_short s [a] i E _ hs hiE hlt (Lib.hid hE) (Lib.hid hext) sm hN7 f0 f1 f2 f3 f4 (by simp) w
    · have hx0 : ∀ h : 0 < (ba' (a :: c2 :: t)).size, (ba' (a :: c2 :: t))[0]'h = a := fun _ => rfl
      have hx1 : ∀ h : 1 < (ba' (a :: c2 :: t)).size, (ba' (a :: c2 :: t))[1]'h = c2 := fun _ => rfl
      have hl2 : (a :: c2 :: t).length = t.length + 2 := rfl
      by_cases h35 : a = 35
      · have q35 : ((a.toNat : Int) == 35) = true := by rw [h35]; rfl
        by_cases h120 : c2 = 120
        · have q120 : ((c2.toNat : Int) == 120) = true := by rw [h120]; rfl
          have hv : rv (E + 1) (meanH (a :: c2 :: t)) = rv (E + 1) (numF 16 t) := by rw [h35, h120]; rfl
          rw [hv]
          by_cases ht : t = []
          · have hv2 : rv (E + 1) (numF 16 t) = RefNo := by rw [ht]; rfl
            rw [hv2]
            exact refc_hd s _ i E _ hs hiE hlt (Lib.hid hE) (Lib.hid hext) sm hN7 f0 f1 f2 f3 f4 a c2 hx0 hx1 q35 q120 (by rw [hl2, ht]; rfl) w
          · have hpos : 0 < t.length := List.length_pos_iff.2 ht
            exact refc_hex s _ i E _ hs hiE hlt (Lib.hid hE) (Lib.hid hext) sm hN7 f0 f1 f2 f3 f4 a c2 hx0 hx1 q35 q120 (by omega) _ (Lib.hid (by rw [num_ref 16 (.inr rfl) t ht]; rfl)) w
        · have q120 : ((c2.toNat : Int) == 120) = false := nat_ne (b := 120) h120
          have hv : rv (E + 1) (meanH (a :: c2 :: t)) = rv (E + 1) (numF 10 (c2 :: t)) := by
            show rv _ (if a = 35 then (if c2 = 120 then numF 16 t else numF 10 (c2 :: t)) else none) = _
            rw [if_pos h35, if_neg h120]
          rw [hv]
          exact refc_dec s _ i E _ hs hiE hlt (Lib.hid hE) (Lib.hid hext) sm hN7 f0 f1 f2 f3 f4 a c2 hx0 hx1 q35 q120 (by omega) _ (Lib.hid (by rw [num_ref 10 (.inl rfl) (c2 :: t) (by simp)]; rfl)) w
      · have q35 : ((a.toNat : Int) == 35) = false := nat_ne (b := 35) h35
        have hv : rv (E + 1) (meanH (a :: c2 :: t)) = RefNo := by
          show rv _ (if a = 35 then _ else none) = _
          rw [if_neg h35]
          rfl
        rw [hv]
        by_cases h120 : c2 = 120
        · have q120 : ((c2.toNat : Int) == 120) = true := by rw [h120]; rfl
          by_cases ht : t = []
          · exact refc_ha s _ i E _ hs hiE hlt (Lib.hid hE) (Lib.hid hext) sm hN7 f0 f1 f2 f3 f4 a c2 hx0 hx1 q35 q120 (by rw [hl2, ht]; rfl) w
          · have hpos : 0 < t.length := List.length_pos_iff.2 ht
            exact refc_hb s _ i E _ hs hiE hlt (Lib.hid hE) (Lib.hid hext) sm hN7 f0 f1 f2 f3 f4 a c2 hx0 hx1 q35 q120 (by omega) w
        · have q120 : ((c2.toNat : Int) == 120) = false := nat_ne (b := 120) h120
          exact refc_hc s _ i E _ hs hiE hlt (Lib.hid hE) (Lib.hid hext) sm hN7 f0 f1 f2 f3 f4 a c2 hx0 hx1 q35 q120 (by omega) w
  · obtain rfl : E = s.length := by omega
    have hV : refV s.length (cutF (s.drop (i + 1))) = RefNo := by
      rw [cutF_semi, if_neg (by rw [List.length_drop]; omega)]
      rfl
    rw [hV]
    exact refc_open s i hs (by omega) (Lib.hid hE) w
end Go.Proofs.YtolkfhiominjbaaGreatDoor
namespace Go.Proofs.YtolkfhiominjbaaGreatDoor
open Go.RowKit Go.Lib
set_option maxRecDepth 100000
set_option maxHeartbeats 8000000
def PcPost (n : Nat) (r : Option (List UInt8 × List UInt8)) (e : Ending) : Prop := match r with
  | none => e = .returned (.tuple #[.string ⟨#[]⟩, .bool false, .int .i64 (-1)])
  | some (m, t) => ∃ b, e = .returned (.tuple #[.string (ba' m), .bool b, .int .i64 ((n - t.length : Nat) : Int)])
/-- What a reference leaves behind it is the text from some place on. -/
theorem cutF_place {s : List UInt8} {p : Nat} {m rest : List UInt8} (hp : p ≤ s.length) (h : cutF (s.drop p) = some (m, rest)) : ∃ k, rest = s.drop k ∧ p < k ∧ k ≤ s.length ∧ s.length - rest.length = k := by
  rw [cutF_semi] at h
  split at h
  · rename_i hl
    rw [List.length_drop] at hl
    cases hm : meanF ((s.drop p).take (semi (s.drop p))) with
    | none => rw [hm] at h; cases h
    | some x =>
      rw [hm] at h
      simp only [Option.map_some, Option.some.injEq, Prod.mk.injEq] at h
      obtain ⟨_, rfl⟩ := h
      rw [List.drop_drop]
      refine ⟨p + (semi (s.drop p) + 1), rfl, by omega, by omega, ?_⟩
      rw [List.length_drop]
      omega
  · cases h
theorem pieceR_any (s : List UInt8) (i0 : Nat) (q : UInt8) (hq : q = 34 ∨ q = 39) (hs : s.length ≤ 70000) (hi0 : i0 ≤ s.length) (w : World) : Calls Tryz.prog 18 #[.string (ba' s), .int .i64 (i0 : Nat), .string (ba' [q]), .string ⟨#[]⟩, .bool false] w fun e w' => PcPost s.length (readF q (s.length + 1) (s.drop i0) []) e ∧ Below w.heap.size w w' := by
  have s1 : (ba' s).size = s.length := size_ba s
  have q1 : (ba' [q]).size = 1 := size_ba [q]
  have x0' : 0 < (ba' [q]).size := by omega
  have x0 : (ba' [q])[0]'x0' = q := rfl
  obtain ⟨r, hr⟩ : ∃ r, readF q (s.length + 1) (s.drop i0) [] = r := ⟨_, rfl⟩
  have HR := Lib.hid hr
  have HQ := Lib.hid hq
  rw [hr]
  clear hr hq
  go_enter Tryz.func18, Tryz.ntmps18
  go_wp2
  go_loopw [1, 13, 14] (fun s1 s13 s14 wx => ∃ (p : Nat) (acc : List UInt8) (b : Bool) (f : Nat), s1 = .int .i64 (p : Nat) ∧ s13 = .string (ba' acc) ∧ s14 = .bool b ∧ p ≤ s.length ∧ acc.length ≤ 4 * p ∧ s.length - p < f ∧ Hid (readF q f (s.drop p) acc = r) ∧ Below w.heap.size w wx) (fun s1 _ _ _ => s.length - (intOf s1).toNat)
  case atStart => exact ⟨i0, [], false, s.length + 1, rfl, rfl, rfl, hi0, by simp, by omega, HR, Below.refl _ _⟩
  case round =>
    obtain ⟨p, acc, b, f, rfl, rfl, rfl, hp, hac, hf, HF, hB⟩ := hrel
    have HB := Lib.hid hB
    clear hB HR
    have sa : (ba' acc).size = acc.length := size_ba acc
    by_cases hlt : p < s.length
    · have g1 : decide ((p : Int) < (s.length : Int)) = true := by simp; omega
      have g1' : decide (p < s.length) = true := by simpa using hlt
      have hlt' : p < (ba' s).size := by omega
      obtain ⟨c, hc⟩ : ∃ c, s[p]'hlt = c := ⟨_, rfl⟩
      have ec : (ba' s)[p]'hlt' = c := hc
      have HD : Hid (s.drop p = c :: s.drop (p + 1)) := Lib.hid (by rw [List.drop_eq_getElem_cons hlt, hc])
      obtain ⟨f, rfl⟩ : ∃ f', f = f' + 1 := ⟨f - 1, by omega⟩
      have hst := HF.out
      rw [HD.out] at hst
      unfold readF at hst
      have HST := Lib.hid hst
      clear hst HF hc
      have hx1 : (ba' s).extract p (p + 1) = ba' [c] := by
        rw [cut_mid, HD.out, Nat.add_sub_cancel_left]
        rfl
      have sc : (ba' [c]).size = 1 := size_ba [c]
      have hcat : ba' acc ++ ba' [c] = ba' (acc ++ [c]) := ba_app _ _
      have hfit : ¬ (9223372036854775807 < acc.length + 1) := by omega
      by_cases hcq : c = q
      · have y0 : ((q.toNat : Int) == (c.toNat : Int)) = true := by rw [hcq]; simp
        have hc38 : ¬ c = 38 := by
          rw [hcq]
          intro e
          rcases HQ.out with h | h <;> rw [h] at e <;> exact absurd e (by decide)
        have hs2 := HST.out
        rw [if_neg hc38, if_pos hcq] at hs2
        by_cases hl2 : p + 1 < s.length
        · have g2 : decide ((p : Int) + 1 < (s.length : Int)) = true := by simp; omega
          have g2' : decide (p + 1 < s.length) = true := by simpa using hl2
          have hl2' : p + 1 < (ba' s).size := by omega
          obtain ⟨d, hd⟩ : ∃ d, s[p + 1]'hl2 = d := ⟨_, rfl⟩
          have ed : (ba' s)[p + 1]'hl2' = d := hd
          have hD2 : s.drop (p + 1) = d :: s.drop (p + 2) := by rw [List.drop_eq_getElem_cons hl2, hd]
          rw [hD2] at hs2
          simp only at hs2
          by_cases hdq : d = q
          · have y1 : ((d.toNat : Int) == (c.toNat : Int)) = true := by rw [hdq, hcq]; simp
            rw [if_pos hdq] at hs2
            have HN : Hid (readF q f (s.drop (p + 2)) (acc ++ [c]) = r) := Lib.hid (by rw [hcq]; exact hs2)
            clear hs2 HST hcq hdq hD2 hd hc38
            go_wp2
            refine wp_loop_rounds 2 ?_
            rw [rounds_succ]
            go_wp2
            rw [rounds_succ]
            go_wp2
            refine wp_loop_rounds 1 ?_
            rw [rounds_succ]
            go_wp2
            go_roundw
            case rel => exact ⟨p + 2, acc ++ [c], true, f, by go_num, rfl, rfl, by omega, by rw [List.length_append]; simp only [List.length_cons, List.length_nil]; omega, by omega, HN, HB.out⟩
            case measure => simp [intOf]; omega
          · have y1 : ((d.toNat : Int) == (c.toNat : Int)) = false := nat_ne (by rw [hcq]; exact hdq)
            rw [if_neg hdq] at hs2
            have HN : Hid (r = some (acc, s.drop p)) := Lib.hid (by rw [← hs2, HD.out, hD2])
            clear hs2 HST hcq hdq hD2 hd hc38
            go_wp2
            refine wp_loop_rounds 2 ?_
            rw [rounds_succ]
            go_wp2
            rw [rounds_succ]
            go_wp2
            refine wp_loop_rounds 1 ?_
            rw [rounds_succ]
            go_wp2
            go_ret3
            refine ⟨?_, HB.out⟩
            rw [HN.out]
            refine ⟨b, ?_⟩
            rw [List.length_drop, show s.length - (s.length - p) = p by omega]
            rfl
        · have g2 : decide ((p : Int) + 1 < (s.length : Int)) = false := by simp; omega
          have g2' : decide (p + 1 < s.length) = false := by simpa using hl2
          have hD2 : s.drop (p + 1) = [] := List.drop_eq_nil_iff.2 (by omega)
          rw [hD2] at hs2
          simp only at hs2
          have HN : Hid (r = some (acc, s.drop p)) := Lib.hid (by rw [← hs2, HD.out, hD2])
          clear hs2 HST hcq hD2 hc38
          go_wp2
          refine wp_loop_rounds 2 ?_
          rw [rounds_succ]
          go_wp2
          rw [rounds_succ]
          go_wp2
          refine wp_loop_rounds 1 ?_
          rw [rounds_succ]
          go_wp2
          go_ret3
          refine ⟨?_, HB.out⟩
          rw [HN.out]
          refine ⟨b, ?_⟩
          rw [List.length_drop, show s.length - (s.length - p) = p by omega]
          rfl
      · have y0 : ((q.toNat : Int) == (c.toNat : Int)) = false := nat_ne fun e => hcq e.symm
        by_cases h38 : c = 38
        · have y38 : ((c.toNat : Int) == 38) = true := by rw [h38]; rfl
          have hs2 := HST.out
          rw [if_pos h38] at hs2
          have HREF : Hid (∀ W, Calls Tryz.prog 29 #[.string (ba' s), .int .i64 (p : Nat)] W fun e w' => e = .returned (refV s.length (cutF (s.drop (p + 1)))) ∧ Below W.heap.size W w') := Lib.hid fun W => refR_any s p hs hlt (by rw [HD.out, h38]) W
          cases hcf : cutF (s.drop (p + 1)) with
          | none =>
            rw [hcf] at hs2 HREF
            have HN : Hid (r = none) := Lib.hid hs2.symm
            have HREF2 : Hid (∀ W, Calls Tryz.prog 29 #[.string (ba' s), .int .i64 (p : Nat)] W fun e w' => e = .returned (.tuple #[.string ⟨#[]⟩, .int .i64 (-1)]) ∧ Below W.heap.size W w') := HREF
            clear hs2 HST h38 hcf hcq HREF
            go_wp2
            refine wp_loop_rounds 2 ?_
            rw [rounds_succ]
            go_wp2
            rw [rounds_succ]
            go_wp2
            refine wp_loop_rounds 1 ?_
            rw [rounds_succ]
            go_wp2_with fail
            refine (HREF2.out _).mono ?_
            rintro e w3 ⟨rfl, hb3⟩
            have HB3 := Lib.hid (bt HB.out hb3)
            clear hb3
            go_wp2
            go_ret3
            refine ⟨?_, HB3.out⟩
            rw [HN.out]
            rfl
          | some x =>
            obtain ⟨m, rest⟩ := x
            obtain ⟨k, rfl, hk1, hk2, hk3⟩ := cutF_place (by omega) hcf
            have hml := (cutF_len hcf).2
            rw [hcf] at hs2 HREF
            simp only at hs2
            have HN : Hid (readF q f (s.drop k) (acc ++ m) = r) := Lib.hid hs2
            have HREF2 : Hid (∀ W, Calls Tryz.prog 29 #[.string (ba' s), .int .i64 (p : Nat)] W fun e w' => e = .returned (.tuple #[.string (ba' m), .int .i64 (k : Int)]) ∧ Below W.heap.size W w') := Lib.hid (by
              have h := HREF.out
              unfold refV at h
              simp only at h
              rw [hk3] at h
              exact h)
            have sm : (ba' m).size = m.length := size_ba m
            have hcat2 : ba' acc ++ ba' m = ba' (acc ++ m) := ba_app _ _
            have hfit2 : ¬ (9223372036854775807 < acc.length + m.length) := by omega
            have k0 : decide ((k : Int) < 0) = false := by simp
            clear hs2 HST h38 hcf hcq HREF hk3
            go_wp2
            refine wp_loop_rounds 2 ?_
            rw [rounds_succ]
            go_wp2
            rw [rounds_succ]
            go_wp2
            refine wp_loop_rounds 1 ?_
            rw [rounds_succ]
            go_wp2_with fail
            refine (HREF2.out _).mono ?_
            rintro e w3 ⟨rfl, hb3⟩
            have HB3 := Lib.hid (bt HB.out hb3)
            clear hb3
            go_wp2
            go_roundw
            case rel => exact ⟨k, acc ++ m, true, f, rfl, rfl, rfl, hk2, by rw [List.length_append]; omega, by omega, HN, HB3.out⟩
            case measure => simp [intOf]; omega
        · have y38 : ((c.toNat : Int) == 38) = false := nat_ne (b := 38) h38
          have hs2 := HST.out
          rw [if_neg h38, if_neg hcq] at hs2
          have HN : Hid (readF q f (s.drop (p + 1)) (acc ++ [c]) = r) := Lib.hid hs2
          have HS : Hid (∀ W, Calls Tryz.prog 27 #[.int .u8 (c.toNat : Int)] W fun e w' => e = .returned (.bool (spc.contains c)) ∧ w' = W) := Lib.hid (fun W => spaceR_any c W)
          obtain ⟨b3, hb3⟩ : ∃ b, spc.contains c = b := ⟨_, rfl⟩
          rw [hb3] at HS
          clear hs2 HST h38 hcq hb3
          cases b with
          | true =>
            go_wp2
            refine wp_loop_rounds 2 ?_
            rw [rounds_succ]
            go_wp2
            rw [rounds_succ]
            go_wp2
            refine wp_loop_rounds 1 ?_
            rw [rounds_succ]
            go_wp2
            go_roundw
            case rel => exact ⟨p + 1, acc ++ [c], true, f, by go_num, rfl, rfl, by omega, by rw [List.length_append]; simp only [List.length_cons, List.length_nil]; omega, by omega, HN, HB.out⟩
            case measure => simp [intOf]; omega
          | false =>
            go_wp2
            refine wp_loop_rounds 2 ?_
            rw [rounds_succ]
            go_wp2
            rw [rounds_succ]
            go_wp2
            refine wp_loop_rounds 1 ?_
            rw [rounds_succ]
            go_wp2_with fail
            refine (HS.out _).mono ?_
            rintro e w3 ⟨rfl, rfl⟩
            go_wp2
            go_roundw
            case rel => exact ⟨p + 1, acc ++ [c], !b3, f, by go_num, rfl, rfl, by omega, by rw [List.length_append]; simp only [List.length_cons, List.length_nil]; omega, by omega, HN, HB.out⟩
            case measure => simp [intOf]; omega
    · obtain rfl : p = s.length := by omega
      have HN : Hid (r = some (acc, [])) := Lib.hid (by
        obtain ⟨f, rfl⟩ : ∃ f', f = f' + 1 := ⟨f - 1, by omega⟩
        rw [← HF.out, List.drop_length]
        rfl)
      clear HF
      go_wp2
      go_ret3
      refine ⟨?_, HB.out⟩
      rw [HN.out]
      exact ⟨b, rfl⟩
end Go.Proofs.YtolkfhiominjbaaGreatDoor
