/- strconv.ParseUint at 31 bits, in base 10 and in base 16. No condition beyond what the theorems state. -/
import Derived.Test.YtpdaldpaceolnaaGreatDoorWords
import Derived.Test.YtpdaldpaceolnaaGreatDoorShelf
import Derived.Lib.ConvBytes
import Derived.Lib.SmallJoins
import Derived.Lib.ParseIntBMem
import Derived.Laws.Strings3
import Derived.Laws.Closers25
import Derived.Laws.Closers25b
namespace Go.Proofs.YtpdaldpaceolnaaGreatDoor
open Go.RowKit Go.Lib
set_option maxRecDepth 100000
set_option maxHeartbeats 16000000
/-- A digit's value; 99: it is none. -/
def digV (c : Nat) : Nat := if 48 ≤ c ∧ c ≤ 57 then c - 48 else if 97 ≤ c ||| 32 ∧ c ||| 32 ≤ 122 then (c ||| 32) - 87 else 99
def puGo (b : Nat) : List UInt8 → Nat → Option Nat
  | [], n => some n
  | c :: t, n => if b ≤ digV c.toNat then none else if 2147483647 < n * b + digV c.toNat then none else puGo b t (n * b + digV c.toNat)
def parseU (b : Nat) (l : List UInt8) : Option Nat := if l = [] then none else puGo b l 0
/-- The number, or one of two errors beside some number. -/
def PuPost (r : Option Nat) (e : Ending) : Prop := match r with
  | some v => e = .returned (.tuple #[.int .u64 (v : Int), .nilIface])
  | none => ∃ x k : Int, e = .returned (.tuple #[.int .u64 x, .iface 149 (.int .i64 k)]) ∧ (k = 1 ∨ k = 2)
theorem low_bits (c : UInt8) : bits .or .u8 (c.toNat : Int) 32 = ((c.toNat ||| 32 : Nat) : Int) := by
  have h : ∀ n, n < 256 → bits .or .u8 ((n : Nat) : Int) 32 = ((n ||| 32 : Nat) : Int) := by decide +kernel
  exact h _ c.toNat_lt
theorem lower_any (c : UInt8) (w : World) : Calls Tryz.prog 125 #[.int .u8 (c.toNat : Int)] w fun e w' => e = .returned (.int .u8 ((c.toNat ||| 32 : Nat) : Int)) ∧ w' = w := by
  have h := low_bits c
  go_enter Tryz.func125, Tryz.ntmps125
  go_wp2
  go_ret
  exact ⟨rfl, rfl⟩
theorem pu_empty (b : Int) (w : World) : Calls Tryz.prog 122 #[.string (ba' []), .int .i64 b, .int .i64 31] w fun e w' => PuPost none e ∧ Below w.heap.size w w' := by
  have e0 : (ba' []).toList.isEmpty = true := by rw [toList_ba]; rfl
  go_enter Tryz.func122, Tryz.ntmps122
  go_wp2
  go_ret2
  exact ⟨⟨_, _, rfl, .inr rfl⟩, Below.refl _ _⟩

theorem pu_10 (bs : List UInt8) (hne : bs ≠ []) (hmax : bs.length ≤ 100000) (w : World) : Calls Tryz.prog 122 #[.string (ba' bs), .int .i64 10, .int .i64 31] w fun e w' => PuPost (puGo 10 bs 0) e ∧ Below w.heap.size w w' := by
  have hemp : (ba' bs).toList.isEmpty = false := by rw [toList_ba]; cases bs with | nil => exact absurd rfl hne | cons => rfl
  have hcv := Lib.run_convert_string_bytes (P := Tryz.prog) w 9 65 5 (ba' bs) (u := .string) Tryz.underlying9 Tryz.underlying65 Tryz.underlying5
  have hB : ∀ j, j < bs.length → (Lib.bytesWorld w 5 (ba' bs)).cell? ⟨w.heap.size, j, none⟩ = some (.int .u8 (bs.getD j 0).toNat) := fun j hj => Lib.bytesWorld_cell w 5 (ba' bs) j (by rw [size_ba]; exact hj)
  have hbw : Below w.heap.size w (Lib.bytesWorld w 5 (ba' bs)) := Go.Joins.below_bytesWorld _ w 5 _ (Nat.le_refl _)
  obtain ⟨W1, hW1⟩ : ∃ W1, W1 = Lib.bytesWorld w 5 (ba' bs) := ⟨_, rfl⟩
  rw [← hW1] at hcv hB hbw
  have HBW := Lib.hid hbw
  have HBC := Lib.hid hB
  have hsz : (ba' bs).size = bs.length := size_ba bs
  obtain ⟨r, hr⟩ : ∃ r, puGo 10 bs 0 = r := ⟨_, rfl⟩
  have HR := Lib.hid hr
  rw [hr]
  clear hW1 hbw hB hr hne
  have hmv : IntKind.u64.wrap (IntKind.u64.wrap 2147483648 - 1) = 2147483647 := by
    rw [IntKind.wrap_u64, IntKind.wrap_u64]
    decide
  go_enter Tryz.func122, Tryz.ntmps122
  go_wp2
  go_loop [12, 13, 101] (fun vu vn vi => ∃ (k acc : Nat) (a : Int), vu = .bool false ∧ vn = .int .u64 a ∧ vi = .int .i64 k ∧ k ≤ bs.length ∧ Hid (a = (acc : Int) ∧ acc ≤ 2147483647 ∧ puGo 10 (bs.drop k) acc = r))
    (fun _ _ vi => bs.length - (intOf vi).toNat)
  case atStart => exact ⟨0, 0, 0, rfl, rfl, rfl, by omega, rfl, by omega, HR.out⟩
  case round =>
    obtain ⟨k, acc, a, rfl, rfl, rfl, hk, hh⟩ := hrel
    obtain ⟨ha, hacc, hdec⟩ := hh.out
    clear hh
    have a0 : 0 ≤ a := by omega
    have a1 : a ≤ 2147483647 := by omega
    by_cases hkn : k < bs.length
    · have hc := HBC.out k hkn
      have hdrop : bs.drop k = bs[k]'hkn :: bs.drop (k + 1) := List.drop_eq_getElem_cons hkn
      have hget : bs.getD k 0 = bs[k]'hkn := by simp [List.getD, List.getElem?_eq_getElem hkn]
      rw [hdrop] at hdec
      rw [hget] at hc
      generalize bs[k]'hkn = c at hc hdec
      have hc256 : c.toNat < 256 := c.toNat_lt
      have hcut : ¬ 1844674407370955162 ≤ acc := by omega
      clear hdrop hget
      by_cases hdig : 48 ≤ c.toNat ∧ c.toNat ≤ 57
      · obtain ⟨hd0, hd1⟩ := hdig
        have hdv : digV c.toNat = c.toNat - 48 := by unfold digV; rw [if_pos ⟨hd0, hd1⟩]
        have hnb : ¬ 10 ≤ c.toNat - 48 := by omega
        by_cases hov : 2147483647 < acc * 10 + (c.toNat - 48)
        · have hF : r = none := by rw [← hdec]; simp [puGo, hdv, hnb, hov]
          have iov : 2147483647 < a * 10 + ((c.toNat : Int) - 48) := by omega
          have HF := Lib.hid hF
          clear hcut hacc hF hov ha hdec hdv hnb
          go_wp2
          all_goals go_ret2
          all_goals exact ⟨by rw [HF.out]; exact ⟨_, _, rfl, .inl rfl⟩, HBW.out⟩
        · have hF : puGo 10 (bs.drop (k + 1)) (acc * 10 + (c.toNat - 48)) = r := by rw [← hdec]; simp [puGo, hdv, hnb, hov]
          have HN : Hid (a * 10 + ((c.toNat : Int) - 48) = ((acc * 10 + (c.toNat - 48) : Nat) : Int) ∧ acc * 10 + (c.toNat - 48) ≤ 2147483647 ∧ puGo 10 (bs.drop (k + 1)) (acc * 10 + (c.toNat - 48)) = r) := Lib.hid ⟨by omega, by omega, hF⟩
          have iov : a * 10 + ((c.toNat : Int) - 48) ≤ 2147483647 := by omega
          clear hcut hacc hF hov hdec ha hdv hnb
          go_wp2
          refine ⟨⟨k + 1, acc * 10 + (c.toNat - 48), a * 10 + ((c.toNat : Int) - 48), rfl, (by first | rfl | (congr 1; omega)), (by first | rfl | (congr 1; omega)), by omega, HN⟩, by simp [intOf]; omega⟩
      · by_cases h95 : c.toNat = 95
        · have HLO : Hid (∀ w1 : World, Calls Tryz.prog 125 #[.int .u8 95] w1 fun e w' => e = .returned (.int .u8 127) ∧ w' = w1) := Lib.hid fun w1 => lower_any 95 w1
          have hF : r = none := by rw [← hdec]; unfold puGo; rw [h95]; rfl
          have HF := Lib.hid hF
          rw [h95] at hc
          have hc' : W1.cell? ⟨w.heap.size, k, none⟩ = some (.int .u8 95) := hc
          clear hcut hacc hF ha hdec hdig hc256 h95 hc
          go_wp2_with (go_at_call 125; refine (HLO.out _).mono ?_; rintro e w' ⟨rfl, rfl⟩)
          all_goals go_ret2
          all_goals exact ⟨by rw [HF.out]; exact ⟨_, _, rfl, .inr rfl⟩, HBW.out⟩
        · have g95 : ((c.toNat : Int) == 95) = false := by rw [beq_eq_false_iff_ne]; omega
          have HLO : Hid (∀ w1 : World, Calls Tryz.prog 125 #[.int .u8 (c.toNat : Int)] w1 fun e w' => e = .returned (.int .u8 ((c.toNat ||| 32 : Nat) : Int)) ∧ w' = w1) := Lib.hid (lower_any c)
          obtain ⟨y, hy⟩ : ∃ y, c.toNat ||| 32 = y := ⟨_, rfl⟩
          have hylt : y < 256 := by
            have h : ∀ n, n < 256 → n ||| 32 < 256 := by decide +kernel
            rw [← hy]; exact h _ hc256
          rw [hy] at HLO
          have hud : digV c.toNat = if 97 ≤ y ∧ y ≤ 122 then y - 87 else 99 := by unfold digV; rw [if_neg hdig, hy]
          clear hy
          by_cases hle : 97 ≤ y ∧ y ≤ 122
          · obtain ⟨hy0, hy1⟩ := hle
            rw [if_pos ⟨hy0, hy1⟩] at hud
            have hF : r = none := by
              rw [← hdec]
              have : 10 ≤ y - 87 := by omega
              simp [puGo, hud, this]
            have HF := Lib.hid hF
            clear hcut hacc hF ha hdec hud
            go_wp2_with (go_at_call 125; refine (HLO.out _).mono ?_; rintro e w' ⟨rfl, rfl⟩)
            all_goals go_ret2
            all_goals exact ⟨by rw [HF.out]; exact ⟨_, _, rfl, .inr rfl⟩, HBW.out⟩
          · rw [if_neg hle] at hud
            have hF : r = none := by rw [← hdec]; simp [puGo, hud]
            have HF := Lib.hid hF
            clear hcut hacc hF ha hdec hud
            go_wp2_with (go_at_call 125; refine (HLO.out _).mono ?_; rintro e w' ⟨rfl, rfl⟩)
            all_goals go_ret2
            all_goals exact ⟨by rw [HF.out]; exact ⟨_, _, rfl, .inr rfl⟩, HBW.out⟩
    · have hkk : k = bs.length := by omega
      subst hkk
      have hF : r = some acc := by rw [← hdec, List.drop_eq_nil_of_le (Nat.le_refl _)]; rfl
      have HF := Lib.hid hF
      subst ha
      clear hacc hF a0 a1 hdec
      go_wp2
      go_ret2
      exact ⟨by rw [HF.out]; rfl, HBW.out⟩

theorem pu_16 (bs : List UInt8) (hne : bs ≠ []) (hmax : bs.length ≤ 100000) (w : World) : Calls Tryz.prog 122 #[.string (ba' bs), .int .i64 16, .int .i64 31] w fun e w' => PuPost (puGo 16 bs 0) e ∧ Below w.heap.size w w' := by
  have hemp : (ba' bs).toList.isEmpty = false := by rw [toList_ba]; cases bs with | nil => exact absurd rfl hne | cons => rfl
  have hcv := Lib.run_convert_string_bytes (P := Tryz.prog) w 9 65 5 (ba' bs) (u := .string) Tryz.underlying9 Tryz.underlying65 Tryz.underlying5
  have hB : ∀ j, j < bs.length → (Lib.bytesWorld w 5 (ba' bs)).cell? ⟨w.heap.size, j, none⟩ = some (.int .u8 (bs.getD j 0).toNat) := fun j hj => Lib.bytesWorld_cell w 5 (ba' bs) j (by rw [size_ba]; exact hj)
  have hbw : Below w.heap.size w (Lib.bytesWorld w 5 (ba' bs)) := Go.Joins.below_bytesWorld _ w 5 _ (Nat.le_refl _)
  obtain ⟨W1, hW1⟩ : ∃ W1, W1 = Lib.bytesWorld w 5 (ba' bs) := ⟨_, rfl⟩
  rw [← hW1] at hcv hB hbw
  have HBW := Lib.hid hbw
  have HBC := Lib.hid hB
  have hsz : (ba' bs).size = bs.length := size_ba bs
  obtain ⟨r, hr⟩ : ∃ r, puGo 16 bs 0 = r := ⟨_, rfl⟩
  have HR := Lib.hid hr
  rw [hr]
  clear hW1 hbw hB hr hne
  have hmv : IntKind.u64.wrap (IntKind.u64.wrap 2147483648 - 1) = 2147483647 := by
    rw [IntKind.wrap_u64, IntKind.wrap_u64]
    decide
  go_enter Tryz.func122, Tryz.ntmps122
  go_wp2
  go_loop [12, 13, 101] (fun vu vn vi => ∃ (k acc : Nat) (a : Int), vu = .bool false ∧ vn = .int .u64 a ∧ vi = .int .i64 k ∧ k ≤ bs.length ∧ Hid (a = (acc : Int) ∧ acc ≤ 2147483647 ∧ puGo 16 (bs.drop k) acc = r))
    (fun _ _ vi => bs.length - (intOf vi).toNat)
  case atStart => exact ⟨0, 0, 0, rfl, rfl, rfl, by omega, rfl, by omega, HR.out⟩
  case round =>
    obtain ⟨k, acc, a, rfl, rfl, rfl, hk, hh⟩ := hrel
    obtain ⟨ha, hacc, hdec⟩ := hh.out
    clear hh
    have a0 : 0 ≤ a := by omega
    have a1 : a ≤ 2147483647 := by omega
    by_cases hkn : k < bs.length
    · have hc := HBC.out k hkn
      have hdrop : bs.drop k = bs[k]'hkn :: bs.drop (k + 1) := List.drop_eq_getElem_cons hkn
      have hget : bs.getD k 0 = bs[k]'hkn := by simp [List.getD, List.getElem?_eq_getElem hkn]
      rw [hdrop] at hdec
      rw [hget] at hc
      generalize bs[k]'hkn = c at hc hdec
      have hc256 : c.toNat < 256 := c.toNat_lt
      have hcut : ¬ 1152921504606846976 ≤ acc := by omega
      clear hdrop hget
      by_cases hdig : 48 ≤ c.toNat ∧ c.toNat ≤ 57
      · obtain ⟨hd0, hd1⟩ := hdig
        have hdv : digV c.toNat = c.toNat - 48 := by unfold digV; rw [if_pos ⟨hd0, hd1⟩]
        have hnb : ¬ 16 ≤ c.toNat - 48 := by omega
        by_cases hov : 2147483647 < acc * 16 + (c.toNat - 48)
        · have hF : r = none := by rw [← hdec]; simp [puGo, hdv, hnb, hov]
          have iov : 2147483647 < a * 16 + ((c.toNat : Int) - 48) := by omega
          have HF := Lib.hid hF
          clear hcut hacc hF hov ha hdec hdv hnb
          go_wp2
          all_goals go_ret2
          all_goals exact ⟨by rw [HF.out]; exact ⟨_, _, rfl, .inl rfl⟩, HBW.out⟩
        · have hF : puGo 16 (bs.drop (k + 1)) (acc * 16 + (c.toNat - 48)) = r := by rw [← hdec]; simp [puGo, hdv, hnb, hov]
          have HN : Hid (a * 16 + ((c.toNat : Int) - 48) = ((acc * 16 + (c.toNat - 48) : Nat) : Int) ∧ acc * 16 + (c.toNat - 48) ≤ 2147483647 ∧ puGo 16 (bs.drop (k + 1)) (acc * 16 + (c.toNat - 48)) = r) := Lib.hid ⟨by omega, by omega, hF⟩
          have iov : a * 16 + ((c.toNat : Int) - 48) ≤ 2147483647 := by omega
          clear hcut hacc hF hov hdec ha hdv hnb
          go_wp2
          refine ⟨⟨k + 1, acc * 16 + (c.toNat - 48), a * 16 + ((c.toNat : Int) - 48), rfl, (by first | rfl | (congr 1; omega)), (by first | rfl | (congr 1; omega)), by omega, HN⟩, by simp [intOf]; omega⟩
      · by_cases h95 : c.toNat = 95
        · have HLO : Hid (∀ w1 : World, Calls Tryz.prog 125 #[.int .u8 95] w1 fun e w' => e = .returned (.int .u8 127) ∧ w' = w1) := Lib.hid fun w1 => lower_any 95 w1
          have hF : r = none := by rw [← hdec]; unfold puGo; rw [h95]; rfl
          have HF := Lib.hid hF
          rw [h95] at hc
          have hc' : W1.cell? ⟨w.heap.size, k, none⟩ = some (.int .u8 95) := hc
          clear hcut hacc hF ha hdec hdig hc256 h95 hc
          go_wp2_with (go_at_call 125; refine (HLO.out _).mono ?_; rintro e w' ⟨rfl, rfl⟩)
          all_goals go_ret2
          all_goals exact ⟨by rw [HF.out]; exact ⟨_, _, rfl, .inr rfl⟩, HBW.out⟩
        · have g95 : ((c.toNat : Int) == 95) = false := by rw [beq_eq_false_iff_ne]; omega
          have HLO : Hid (∀ w1 : World, Calls Tryz.prog 125 #[.int .u8 (c.toNat : Int)] w1 fun e w' => e = .returned (.int .u8 ((c.toNat ||| 32 : Nat) : Int)) ∧ w' = w1) := Lib.hid (lower_any c)
          obtain ⟨y, hy⟩ : ∃ y, c.toNat ||| 32 = y := ⟨_, rfl⟩
          have hylt : y < 256 := by
            have h : ∀ n, n < 256 → n ||| 32 < 256 := by decide +kernel
            rw [← hy]; exact h _ hc256
          rw [hy] at HLO
          have hud : digV c.toNat = if 97 ≤ y ∧ y ≤ 122 then y - 87 else 99 := by unfold digV; rw [if_neg hdig, hy]
          clear hy
          by_cases hle : 97 ≤ y ∧ y ≤ 122
          · obtain ⟨hy0, hy1⟩ := hle
            rw [if_pos ⟨hy0, hy1⟩] at hud
            by_cases hf : y ≤ 102
            · have hnb : ¬ 16 ≤ y - 87 := by omega
              by_cases hov : 2147483647 < acc * 16 + (y - 87)
              · have hF : r = none := by rw [← hdec]; simp [puGo, hud, hnb, hov]
                have iov : 2147483647 < a * 16 + ((y : Int) - 97 + 10) := by omega
                have HF := Lib.hid hF
                clear hcut hacc hF hov ha hdec hud hnb
                go_wp2_with (go_at_call 125; refine (HLO.out _).mono ?_; rintro e w' ⟨rfl, rfl⟩)
                all_goals go_ret2
                all_goals exact ⟨by rw [HF.out]; exact ⟨_, _, rfl, .inl rfl⟩, HBW.out⟩
              · have hF : puGo 16 (bs.drop (k + 1)) (acc * 16 + (y - 87)) = r := by rw [← hdec]; simp [puGo, hud, hnb, hov]
                have HN : Hid (a * 16 + ((y : Int) - 97 + 10) = ((acc * 16 + (y - 87) : Nat) : Int) ∧ acc * 16 + (y - 87) ≤ 2147483647 ∧ puGo 16 (bs.drop (k + 1)) (acc * 16 + (y - 87)) = r) := Lib.hid ⟨by omega, by omega, hF⟩
                have iov : a * 16 + ((y : Int) - 97 + 10) ≤ 2147483647 := by omega
                clear hcut hacc hF hov hdec ha hud hnb
                go_wp2_with (go_at_call 125; refine (HLO.out _).mono ?_; rintro e w' ⟨rfl, rfl⟩)
                all_goals refine ⟨⟨k + 1, acc * 16 + (y - 87), a * 16 + ((y : Int) - 97 + 10), rfl, (by first | rfl | (congr 1; omega)), (by first | rfl | (congr 1; omega)), by omega, HN⟩, by simp [intOf]; omega⟩
            · have hF : r = none := by
                rw [← hdec]
                have : 16 ≤ y - 87 := by omega
                simp [puGo, hud, this]
              have HF := Lib.hid hF
              clear hcut hacc hF ha hdec hud
              go_wp2_with (go_at_call 125; refine (HLO.out _).mono ?_; rintro e w' ⟨rfl, rfl⟩)
              all_goals go_ret2
              all_goals exact ⟨by rw [HF.out]; exact ⟨_, _, rfl, .inr rfl⟩, HBW.out⟩
          · rw [if_neg hle] at hud
            have hF : r = none := by rw [← hdec]; simp [puGo, hud]
            have HF := Lib.hid hF
            clear hcut hacc hF ha hdec hud
            go_wp2_with (go_at_call 125; refine (HLO.out _).mono ?_; rintro e w' ⟨rfl, rfl⟩)
            all_goals go_ret2
            all_goals exact ⟨by rw [HF.out]; exact ⟨_, _, rfl, .inr rfl⟩, HBW.out⟩
    · have hkk : k = bs.length := by omega
      subst hkk
      have hF : r = some acc := by rw [← hdec, List.drop_eq_nil_of_le (Nat.le_refl _)]; rfl
      have HF := Lib.hid hF
      subst ha
      clear hacc hF a0 a1 hdec
      go_wp2
      go_ret2
      exact ⟨by rw [HF.out]; rfl, HBW.out⟩
end Go.Proofs.YtpdaldpaceolnaaGreatDoor
