/- The statement LexWords: its walk. No condition beyond what the theorems state. -/
import Derived.Test.YtolkfhiominjbaaGreatDoorRegB
import Derived.Deep.DeepCutAuto
namespace Go.Proofs.YtolkfhiominjbaaGreatDoor
open Go.RowKit Go.Lib
set_option maxRecDepth 100000
set_option maxHeartbeats 16000000
def Good (w : List UInt8) : Prop := w.length ≤ 100 ∧ okT w 0 = true ∧ ∃ t, allF w = some [t] ∧ t.a = 0 ∧ t.b = w.length
def strL (W : List (List UInt8)) : List Value := W.map fun w => .string (ba' w)
theorem strs_at {w : World} {B n : Nat} {A : Option Addr} {W : List (List UInt8)} (h : Reads w B 1 A n (strL W)) {i : Nat} {x : List UInt8} (hx : W[i]? = some x) : ∃ ad, A = some ad ∧ (ad.add i).block < B ∧ w.cell? (ad.add i) = some (.string (ba' x)) := by
  have hi := (List.getElem?_eq_some_iff.1 hx).1
  have hn : n = W.length := by have := h.1; unfold strL at this; simp at this; omega
  obtain ⟨ad, e, hb, hc⟩ := h.2 (by omega)
  refine ⟨ad, e, by rw [block_of_add]; exact hb, hc i _ ?_⟩
  unfold strL
  rw [List.getElem?_map, hx]
  rfl
theorem cellsK_at : ∀ (M : List Tk) (j : Nat) (t : Tk), M[j]? = some t → (cellsK M)[j * 4 + 2]? = some (.int .i64 (t.a : Nat)) ∧ (cellsK M)[j * 4 + 3]? = some (.int .i64 (t.b : Nat))
  | [], j, t, h => by simp at h
  | q :: M, 0, t, h => by
    simp only [List.getElem?_cons_zero, Option.some.injEq] at h
    subst h
    exact ⟨rfl, rfl⟩
  | q :: M, j + 1, t, h => by
    have := cellsK_at M j t (by simpa using h)
    have e : cellsK (q :: M) = [.int .i64 (q.k : Nat), .string (ba' q.x), .int .i64 (q.a : Nat), .int .i64 (q.b : Nat)] ++ cellsK M := by unfold cellsK; rw [List.flatMap_cons]
    rw [e, List.getElem?_append_right (by simp; omega), List.getElem?_append_right (by simp; omega)]
    simp only [List.length_cons, List.length_nil]
    rw [show (j + 1) * 4 + 2 - 4 = j * 4 + 2 by omega, show (j + 1) * 4 + 3 - 4 = j * 4 + 3 by omega]
    exact this
theorem cut_mid (l : List UInt8) (a b : Nat) : (ba' l).extract a b = ba' ((l.drop a).take (b - a)) := by
  apply ByteArray.ext
  apply Array.toList_inj.1
  rw [extract_list]
  show (l.take b).drop a = (l.drop a).take (b - a)
  rw [List.drop_take]
theorem words_walk (A : Option Addr) (n c : Nat) (W : List (List UInt8)) (w : World) (hn : W.length = n) (hE : Env w) (hL : ∀ x ∈ W, x.length ≤ maxLen)
    (HRD : Hid (∀ w1 : World, Below w.heap.size w w1 → Reads w1 w.heap.size 1 A n (strL W))) :
    Calls Tryz.prog 5 #[.slice A n c] w fun e w' => e = .returned (.bool true) ∧ Below w.heap.size w w' := by
  have HAW : Hid (∀ W1 : World, Below w.heap.size w W1 → Calls Tryz.prog 6 #[] W1 fun e w' => e = .returned (.bool true) ∧ Below W1.heap.size W1 w') := Lib.hid fun W1 h => by
    have hE1 := hE.below h
    obtain ⟨h1, ⟨v, hv⟩, _⟩ := id hE1
    exact awake_any W1 h1 v hv
  have HAL : Hid (∀ (x : List UInt8) (W1 : World), x.length ≤ maxLen → Below w.heap.size w W1 → Calls Tryz.prog 10 #[.string (ba' x)] W1 fun e w' => LPost W1 (allR x) (allE x) e w' ∧ Below W1.heap.size W1 w') := Lib.hid fun x W1 hx h => All_any x hx W1 (hE.below h)
  have HLL := Lib.hid hL
  have HWN := Lib.hid hn
  clear hE hL hn
  go_enter Tryz.func5, Tryz.ntmps5
  go_wp2_with fail
  refine (HAW.out w (Below.refl _ _)).mono ?_
  rintro e w1 ⟨rfl, hb1⟩
  have HB1 := Lib.hid hb1
  clear hb1
  by_cases h200 : 200 < n
  · have g0 : decide ((n : Int) > 200) = true := by simp; omega
    have g0' : decide ((200 : Int) < (n : Int)) = true := by simp; omega
    have g0'' : decide (200 < n) = true := by simp; omega
    go_wp2_with fail
    refine (HAW.out w1 HB1.out).mono ?_
    rintro e w2 ⟨rfl, hb2⟩
    have HB2 := Lib.hid (bt HB1.out hb2)
    clear hb2
    go_wp2
    go_ret
    exact ⟨rfl, HB2.out⟩
  · have g0 : decide ((n : Int) > 200) = false := by simp; omega
    have g0' : decide ((200 : Int) < (n : Int)) = false := by simp; omega
    have g0'' : decide (200 < n) = false := by simp; omega
    go_wp2
    go_loopw [3, 4] (fun s3 s4 wx => ∃ (i : Nat) (s : List UInt8), s3 = .string (ba' s) ∧ s4 = .int .i64 (i : Nat) ∧ i ≤ n ∧ s.length ≤ 101 * i ∧ Hid (s = cat (W.take i) ∧ ∀ x ∈ W.take i, Good x) ∧ Below w.heap.size w wx) (fun _ s4 _ => n - (intOf s4).toNat)
    case atStart => exact ⟨0, [], rfl, rfl, Nat.zero_le _, by simp, Lib.hid ⟨rfl, by simp⟩, HB1.out⟩
    case round =>
      obtain ⟨i, s, rfl, rfl, hi, hsl, HS, hB⟩ := hrel
      have HB := Lib.hid hB
      by_cases hlt : i < n
      · have g1 : decide ((i : Int) < (n : Int)) = true := by simp; omega
        have g1' : decide (i < n) = true := by simpa using hlt
        obtain ⟨x, hx⟩ : ∃ x, W[i]? = some x := ⟨_, List.getElem?_eq_getElem (by rw [HWN.out]; exact hlt)⟩
        obtain ⟨ad, rfl, hadb, hc0⟩ := strs_at (HRD.out wr hB) hx
        have hxm := List.mem_of_getElem? hx
        have hxl := HLL.out x hxm
        have HX := Lib.hid hx
        have HADB : Hid ((ad.add i).block < wr.heap.size) := Lib.hid (by have := hB.size; omega)
        clear hxm hx
        have hsx : (ba' x).size = x.length := size_ba x
        have hal := HAL.out x wr hxl hB
        cases hr : allR x with
        | none =>
          have hae : allE x ≠ 0 := by
            unfold allR at hr
            unfold allE
            split at hr
            · rename_i hok
              rw [if_pos hok, hr]
              decide
            · rename_i hok
              rw [if_neg hok]
              decide
          obtain ⟨e0, he0⟩ : ∃ e0, allE x = e0 := ⟨_, rfl⟩
          rw [hr, he0] at hal
          rw [he0] at hae
          have HA := Lib.hid hal
          clear hal he0 hr
          go_wp2_with fail
          refine HA.out.mono ?_
          rintro e w3 ⟨he, hb3⟩
          obtain rfl : e = _ := he
          have HB3 : Hid (Below w.heap.size w w3) := Lib.hid (bt HB.out hb3)
          have hcx := (hb3.cell (p := ad.add i) HADB.out).trans hc0
          clear hb3 hc0
          by_cases h100 : 100 < x.length
          · have q0 : decide ((100 : Int) < (x.length : Int)) = true := by simp; omega
            go_upto_region 8 with fail
            go_cut [65] (fun s65 wx => s65 = .bool true ∧ Below w3.heap.size w3 wx)
            case first =>
              rename_i J K' hJ hK'
              refine W1_region ad n c i x none 0 0 0 0 0 e0 _ _ _ _ _ _ _ _ _ _ _ _ _ _ _ _ _ _ _ _ _ _ _ _ _ _ _ _ _ _ _ _ _ _ _ _ _ _ _ _ _ _ _ _ _ _ _ _ _ _ _ _ _ _ _ _ _ _ _ _ _ _ _ _ _ _ _ _ _ _ _ _ _ _ _ _ _ _ _ _ _ _ _ _ _ _ _ _ _ _ _ _ _ _ _ _ _ _ _ _ _ _ _ _ _ _ w3 w3 _ (Below.refl _ _) hcx hlt hsx h100 q0 ?_
              intro w' _ hb
              refine hK' _ _ (Met.intro (hJ _ _ ?_))
              (repeat apply Exists.intro)
              refine ⟨?_, rfl⟩
              exact ⟨rfl, hb⟩
            case rest =>
              obtain ⟨rfl, hbc⟩ := hcut
              have HBC := Lib.hid (bt HB3.out hbc)
              go_wp2
              go_ret
              exact ⟨rfl, HBC.out⟩
          · have q0 : decide ((100 : Int) < (x.length : Int)) = false := by simp; omega
            have q1 : (e0 != 0) = true := by simpa using hae
            have q2 : decide (¬ e0 = 0) = true := by simpa using hae
            go_upto_region 8 with fail
            go_cut [65] (fun s65 wx => s65 = .bool true ∧ Below w3.heap.size w3 wx)
            case first =>
              rename_i J K' hJ hK'
              refine W2_region ad n c i x none 0 0 0 0 0 e0 _ _ _ _ _ _ _ _ _ _ _ _ _ _ _ _ _ _ _ _ _ _ _ _ _ _ _ _ _ _ _ _ _ _ _ _ _ _ _ _ _ _ _ _ _ _ _ _ _ _ _ _ _ _ _ _ _ _ _ _ _ _ _ _ _ _ _ _ _ _ _ _ _ _ _ _ _ _ _ _ _ _ _ _ _ _ _ _ _ _ _ _ _ _ _ _ _ _ _ _ _ _ _ _ _ _ w3 w3 _ (Below.refl _ _) hcx hlt hsx h100 q0 q1 q2 ?_
              intro w' _ hb
              refine hK' _ _ (Met.intro (hJ _ _ ?_))
              (repeat apply Exists.intro)
              refine ⟨?_, rfl⟩
              exact ⟨rfl, hb⟩
            case rest =>
              obtain ⟨rfl, hbc⟩ := hcut
              have HBC := Lib.hid (bt HB3.out hbc)
              go_wp2
              go_ret
              exact ⟨rfl, HBC.out⟩
        | some L =>
          have hF : okT x 0 = true ∧ allF x = some L ∧ allE x = 0 := by
            unfold allR at hr
            split at hr
            · rename_i hok
              refine ⟨hok, hr, ?_⟩
              unfold allE
              rw [if_pos hok, hr]
              rfl
            · cases hr
          rw [hr, hF.2.2] at hal
          have HF := Lib.hid hF
          have HA := Lib.hid hal
          clear hal hF hr
          go_wp2_with fail
          refine HA.out.mono ?_
          rintro e w3 ⟨⟨A3, c3, base, rfl, hbase, hown⟩, hb3⟩
          have HB3 : Hid (Below w.heap.size w w3) := Lib.hid (bt HB.out hb3)
          have hcx := (hb3.cell (p := ad.add i) HADB.out).trans hc0
          have HADB3 : Hid ((ad.add i).block < w3.heap.size) := Lib.hid (Nat.lt_of_lt_of_le HADB.out hb3.size)
          have HO := Lib.hid hown
          clear hb3 hc0 hown hbase
          obtain ⟨m, hm⟩ : ∃ m, L.length = m := ⟨_, rfl⟩
          rw [hm] at HO ⊢
          by_cases h100 : 100 < x.length
          · have q0 : decide ((100 : Int) < (x.length : Int)) = true := by simp; omega
            go_upto_region 8 with fail
            go_cut [65] (fun s65 wx => s65 = .bool true ∧ Below w3.heap.size w3 wx)
            case first =>
              rename_i J K' hJ hK'
              refine W1_region ad n c i x A3 m c3 0 0 0 0 _ _ _ _ _ _ _ _ _ _ _ _ _ _ _ _ _ _ _ _ _ _ _ _ _ _ _ _ _ _ _ _ _ _ _ _ _ _ _ _ _ _ _ _ _ _ _ _ _ _ _ _ _ _ _ _ _ _ _ _ _ _ _ _ _ _ _ _ _ _ _ _ _ _ _ _ _ _ _ _ _ _ _ _ _ _ _ _ _ _ _ _ _ _ _ _ _ _ _ _ _ _ _ _ _ _ w3 w3 _ (Below.refl _ _) hcx hlt hsx h100 q0 ?_
              intro w' _ hb
              refine hK' _ _ (Met.intro (hJ _ _ ?_))
              (repeat apply Exists.intro)
              refine ⟨?_, rfl⟩
              exact ⟨rfl, hb⟩
            case rest =>
              obtain ⟨rfl, hbc⟩ := hcut
              have HBC := Lib.hid (bt HB3.out hbc)
              go_wp2
              go_ret
              exact ⟨rfl, HBC.out⟩
          · have q0 : decide ((100 : Int) < (x.length : Int)) = false := by simp; omega
            by_cases hm1 : m = 1
            · subst hm1
              obtain ⟨t, rfl⟩ : ∃ t, L = [t] := by
                rcases L with _ | ⟨t, _ | ⟨t2, L⟩⟩
                · simp at hm
                · exact ⟨t, rfl⟩
                · simp at hm
              obtain ⟨g, rfl, hg0, hg1, hgx⟩ := row_cells4 HO.out (by decide)
              have ca : w3.cell? ⟨g, 2, none⟩ = some (.int .i64 (t.a : Nat)) := hgx 2 _ rfl
              have cb : w3.cell? ⟨g, 3, none⟩ = some (.int .i64 (t.b : Nat)) := hgx 3 _ rfl
              clear hgx hm
              obtain ⟨k, tx, a, b⟩ := t
              simp only at ca cb
              by_cases ha0 : a = 0
              · subst ha0
                by_cases hb0 : b = x.length
                · subst hb0
                  have HGD : Hid (Good x) := Lib.hid ⟨by omega, HF.out.1, _, HF.out.2.1, rfl, rfl⟩
                  have HTK : Hid (W.take (i + 1) = W.take i ++ [x]) := Lib.hid (by rw [List.take_add_one, HX.out]; rfl)
                  go_upto_region 8 with fail
                  go_cut [65] (fun s65 wx => s65 = .bool false ∧ Below w3.heap.size w3 wx)
                  case first =>
                    rename_i J K' hJ hK'
                    refine W6_region ad n c i x none 0 c3 g 0 x.length 0 _ _ _ _ _ _ _ _ _ _ _ _ _ _ _ _ _ _ _ _ _ _ _ _ _ _ _ _ _ _ _ _ _ _ _ _ _ _ _ _ _ _ _ _ _ _ _ _ _ _ _ _ _ _ _ _ _ _ _ _ _ _ _ _ _ _ _ _ _ _ _ _ _ _ _ _ _ _ _ _ _ _ _ _ _ _ _ _ _ _ _ _ _ _ _ _ _ _ _ _ _ _ _ _ _ _ w3 w3 _ (Below.refl _ _) hcx ca cb hlt hsx h100 q0 ?_
                    intro w' _ hb
                    refine hK' _ _ (Met.intro (hJ _ _ ?_))
                    (repeat apply Exists.intro)
                    refine ⟨?_, rfl⟩
                    exact ⟨rfl, hb⟩
                  case rest =>
                    obtain ⟨rfl, hbc⟩ := hcut
                    have HBC := Lib.hid (bt HB3.out hbc)
                    have hcw := (hbc.cell (p := ad.add i) HADB3.out).trans hcx
                    have s2 : (ba' s).size = s.length := size_ba s
                    have r1 : ¬ (9223372036854775807 < (ba' s).size + (ba' x).size) := by omega
                    have r2 : ¬ (9223372036854775807 < (ba' s).size + (ba' x).size + 1) := by omega
                    have r3 : ¬ (9223372036854775807 < s.length + x.length) := by omega
                    have r4 : ¬ (9223372036854775807 < s.length + x.length + 1) := by omega
                    have HAP : Hid (ba' s ++ ba' x ++ ⟨#[32]⟩ = ba' (s ++ (x ++ [32]))) := Lib.hid (by
                      show ba' s ++ ba' x ++ ba' [32] = _
                      rw [ba_app, ba_app, List.append_assoc])
                    clear hbc hcx ca cb
                    go_wp2
                    go_roundw
                    case rel => exact ⟨i + 1, s ++ (x ++ [32]), by rw [← HAP.out], by go_num, by omega, by simp only [List.length_append, List.length_cons, List.length_nil]; omega, Lib.hid ⟨by rw [HTK.out, cat_snoc, ← HS.out.1], fun y hy => by
                      rw [HTK.out] at hy
                      rcases List.mem_append.1 hy with hy | hy
                      · exact HS.out.2 y hy
                      · rw [List.mem_singleton] at hy
                        rw [hy]
                        exact HGD.out⟩, HBC.out⟩
                    case measure => simp [intOf]; omega
                · have q5 : (((b : Nat) : Int) != ((x.length : Nat) : Int)) = true := by rw [bne_iff_ne]; omega
                  have q6 : decide (¬ ((b : Nat) : Int) = ((x.length : Nat) : Int)) = true := by simp only [decide_eq_true_eq]; omega
                  have q7 : decide (¬ b = x.length) = true := by simpa using hb0
                  go_upto_region 8 with fail
                  go_cut [65] (fun s65 wx => s65 = .bool true ∧ Below w3.heap.size w3 wx)
                  case first =>
                    rename_i J K' hJ hK'
                    refine W5_region ad n c i x none 0 c3 g 0 b 0 _ _ _ _ _ _ _ _ _ _ _ _ _ _ _ _ _ _ _ _ _ _ _ _ _ _ _ _ _ _ _ _ _ _ _ _ _ _ _ _ _ _ _ _ _ _ _ _ _ _ _ _ _ _ _ _ _ _ _ _ _ _ _ _ _ _ _ _ _ _ _ _ _ _ _ _ _ _ _ _ _ _ _ _ _ _ _ _ _ _ _ _ _ _ _ _ _ _ _ _ _ _ _ _ _ _ w3 w3 _ (Below.refl _ _) hcx ca cb hlt hsx h100 q0 q5 q6 q7 ?_
                    intro w' _ hb
                    refine hK' _ _ (Met.intro (hJ _ _ ?_))
                    (repeat apply Exists.intro)
                    refine ⟨?_, rfl⟩
                    exact ⟨rfl, hb⟩
                  case rest =>
                    obtain ⟨rfl, hbc⟩ := hcut
                    have HBC := Lib.hid (bt HB3.out hbc)
                    go_wp2
                    go_ret
                    exact ⟨rfl, HBC.out⟩
              · have q3 : (((a : Nat) : Int) != 0) = true := by simpa using ha0
                have q4 : decide (¬ ((a : Nat) : Int) = 0) = true := by simpa using ha0
                have q4' : decide (¬ a = 0) = true := by simpa using ha0
                go_upto_region 8 with fail
                go_cut [65] (fun s65 wx => s65 = .bool true ∧ Below w3.heap.size w3 wx)
                case first =>
                  rename_i J K' hJ hK'
                  refine W4_region ad n c i x none 0 c3 g a b 0 _ _ _ _ _ _ _ _ _ _ _ _ _ _ _ _ _ _ _ _ _ _ _ _ _ _ _ _ _ _ _ _ _ _ _ _ _ _ _ _ _ _ _ _ _ _ _ _ _ _ _ _ _ _ _ _ _ _ _ _ _ _ _ _ _ _ _ _ _ _ _ _ _ _ _ _ _ _ _ _ _ _ _ _ _ _ _ _ _ _ _ _ _ _ _ _ _ _ _ _ _ _ _ _ _ _ w3 w3 _ (Below.refl _ _) hcx ca hlt hsx h100 q0 q3 q4 q4' ?_
                  intro w' _ hb
                  refine hK' _ _ (Met.intro (hJ _ _ ?_))
                  (repeat apply Exists.intro)
                  refine ⟨?_, rfl⟩
                  exact ⟨rfl, hb⟩
                case rest =>
                  obtain ⟨rfl, hbc⟩ := hcut
                  have HBC := Lib.hid (bt HB3.out hbc)
                  go_wp2
                  go_ret
                  exact ⟨rfl, HBC.out⟩
            · have q3 : (((m : Nat) : Int) != 1) = true := by simp; omega
              have q4 : decide (¬ ((m : Nat) : Int) = 1) = true := by simp; omega
              have q4' : decide (¬ m = 1) = true := by simpa using hm1
              go_upto_region 8 with fail
              go_cut [65] (fun s65 wx => s65 = .bool true ∧ Below w3.heap.size w3 wx)
              case first =>
                rename_i J K' hJ hK'
                refine W3_region ad n c i x A3 m c3 0 0 0 0 _ _ _ _ _ _ _ _ _ _ _ _ _ _ _ _ _ _ _ _ _ _ _ _ _ _ _ _ _ _ _ _ _ _ _ _ _ _ _ _ _ _ _ _ _ _ _ _ _ _ _ _ _ _ _ _ _ _ _ _ _ _ _ _ _ _ _ _ _ _ _ _ _ _ _ _ _ _ _ _ _ _ _ _ _ _ _ _ _ _ _ _ _ _ _ _ _ _ _ _ _ _ _ _ _ _ w3 w3 _ (Below.refl _ _) hcx hlt hsx h100 q0 q3 q4 q4' ?_
                intro w' _ hb
                refine hK' _ _ (Met.intro (hJ _ _ ?_))
                (repeat apply Exists.intro)
                refine ⟨?_, rfl⟩
                exact ⟨rfl, hb⟩
              case rest =>
                obtain ⟨rfl, hbc⟩ := hcut
                have HBC := Lib.hid (bt HB3.out hbc)
                go_wp2
                go_ret
                exact ⟨rfl, HBC.out⟩
      · obtain rfl : i = n := by omega
        have e : W.take i = W := List.take_of_length_le (by rw [HWN.out]; exact Nat.le_refl _)
        obtain ⟨hs, hgood⟩ := HS.out
        rw [e] at hs hgood
        obtain ⟨M, hM1, hM2, hM3, hM4⟩ := cat_all W (by rw [HWN.out]; omega) hgood
        rw [← hs] at hM1 hM2 hM4
        have hal := HAL.out s wr (by unfold maxLen; omega) hB
        rw [hM1, hM2] at hal
        have HA := Lib.hid hal
        have HM4 := Lib.hid hM4
        have HM3 : Hid (M.length = i) := Lib.hid (hM3.trans HWN.out)
        clear hal hM1 hM2 hM3 hM4 hs hgood e HS
        go_wp2_with fail
        refine HA.out.mono ?_
        rintro e w3 ⟨⟨A3, c3, base, rfl, hbase, hown⟩, hb3⟩
        have HB3 : Hid (Below w.heap.size w w3) := Lib.hid (bt HB.out hb3)
        rw [HM3.out] at hown ⊢
        have HO := Lib.hid hown
        clear hb3 hown hbase
        go_wp2
        go_loopw [9] (fun s9 wx => ∃ j : Nat, s9 = .int .i64 (j : Nat) ∧ j ≤ i ∧ Below w3.heap.size w3 wx) (fun s9 _ => i - (intOf s9).toNat)
        case atStart => exact ⟨0, rfl, Nat.zero_le _, Below.refl _ _⟩
        case round =>
          obtain ⟨j, rfl, hj, hB4⟩ := hrel
          have HB4 := Lib.hid hB4
          have HBW := Lib.hid (bt HB3.out hB4)
          by_cases hjl : j < i
          · have g3 : decide ((j : Int) < (i : Int)) = true := by simp; omega
            have g3' : decide (j < i) = true := by simpa using hjl
            obtain ⟨x, hx⟩ : ∃ x, W[j]? = some x := ⟨_, List.getElem?_eq_getElem (by rw [HWN.out]; exact hjl)⟩
            obtain ⟨ad, rfl, hadb, hc0⟩ := strs_at (HRD.out wr HBW.out) hx
            obtain ⟨t, ht, hab, hbl, hT⟩ := HM4.out j x hx
            obtain ⟨ka, kb⟩ := cellsK_at M j t ht
            obtain ⟨g, rfl, hg0, hg1, hgx⟩ := row_cells4 HO.out (by omega)
            have ca := (hB4.cell (p := ⟨g, j * 4 + 2, none⟩) hg1).trans (hgx _ _ ka)
            have cb := (hB4.cell (p := ⟨g, j * 4 + 3, none⟩) hg1).trans (hgx _ _ kb)
            have hTT : (ba' s).extract t.a t.b = ba' x := by rw [cut_mid, hT]
            have hbS : t.b ≤ (ba' s).size := by rw [size_ba]; exact hbl
            clear hgx ka kb hT hbl ht hx
            go_upto_region 17 with fail
            go_cut [109] (fun s109 wx => s109 = .bool false ∧ Below wr.heap.size wr wx)
            case first =>
              rename_i J K' hJ hK'
              refine T_region ad i c j x (ba' s) i c3 g t.a t.b _ _ _ _ _ _ _ _ _ _ _ _ _ _ _ _ _ _ _ _ _ _ _ _ _ _ _ _ _ _ _ _ _ _ _ _ _ _ _ _ _ _ _ _ _ _ _ _ _ _ _ _ _ _ _ _ _ _ _ _ _ _ _ _ _ _ _ _ _ _ _ _ _ _ _ _ _ _ _ _ _ _ _ _ _ _ _ _ _ _ _ _ _ _ _ _ _ _ _ _ _ _ _ _ _ _ wr wr _ (Below.refl _ _) hc0 ca cb hjl hjl hab hbS hTT ?_
              intro w' _ hb
              refine hK' _ _ (Met.intro (hJ _ _ ?_))
              (repeat apply Exists.intro)
              refine ⟨?_, rfl⟩
              exact ⟨rfl, hb⟩
            case rest =>
              obtain ⟨rfl, hbc⟩ := hcut
              have HBC := Lib.hid (bt HB4.out hbc)
              clear hbc hc0 ca cb
              go_wp2
              go_roundw
              case rel => exact ⟨j + 1, by go_num, by omega, HBC.out⟩
              case measure => simp [intOf]; omega
          · obtain rfl : j = i := by omega
            go_wp2
            go_ret
            exact ⟨rfl, HBW.out⟩
end Go.Proofs.YtolkfhiominjbaaGreatDoor
