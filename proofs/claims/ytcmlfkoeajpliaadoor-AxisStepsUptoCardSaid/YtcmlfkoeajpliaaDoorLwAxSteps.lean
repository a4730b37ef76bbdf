/- The statement AxisSteps. No condition beyond what the theorems state. -/
import Derived.Test.YtcmlfkoeajpliaaDoorRefTakes
import Derived.Test.YtcmlfkoeajpliaaDoorLwAxBack
import Derived.Deep.RegionHeld3
import Derived.Test.YtcmlfkoeajpliaaDoorRowBase
namespace Go.Proofs.YtcmlfkoeajpliaaDoor
open Go.RowKit Go.Lib
set_option maxRecDepth 100000
set_option maxHeartbeats 16000000
/-- What the law of steps asks, in whatever later world. -/
structure AskS (w2 : World) (sb N cl : Nat) (Al : Option Addr) (X : Nat → Int → List Nat) (T : Nat → Int → Int → List UInt8 → Bool) : Prop where
  f38 : ∀ (w3 : World) (n : Nat) (a tk : Int) (tn : List UInt8), Below w2.heap.size w2 w3 → Calls Tryd.prog 38 #[.pointer (some ⟨sb, 0, none⟩), .int .i64 (n : Int), .int .i64 a, .agg #[.int .i64 tk, .string (ba' tn)]] w3 fun e w' => e = .returned (.bool (T n a tk tn)) ∧ Below w3.heap.size w3 w'
  f39 : ∀ (w3 : World) (n : Nat) (a tk : Int) (tn : List UInt8), Below w2.heap.size w2 w3 → Calls Tryd.prog 39 #[.slice Al N cl, .int .i64 (n : Int), .int .i64 a, .agg #[.int .i64 tk, .string (ba' tn)]] w3 fun e w' => e = .returned (.bool (T n a tk tn)) ∧ Below w3.heap.size w3 w'
  f35 : ∀ (w3 : World) (n : Nat) (a : Int), Below w2.heap.size w2 w3 → Calls Tryd.prog 35 #[.slice Al N cl, .int .i64 (n : Int), .int .i64 a] w3 fun e w' => ∃ A c, e = .returned (.slice A (X n a).length c) ∧ RowIn w' A (X n a) ∧ Below w3.heap.size w3 w'
  f40 : ∀ (w3 : World) (n : Nat) (a tk : Int) (tn : List UInt8), Below w2.heap.size w2 w3 → Calls Tryd.prog 40 #[.pointer (some ⟨sb, 0, none⟩), .int .i64 (n : Int), .int .i64 a, .agg #[.int .i64 tk, .string (ba' tn)]] w3 fun e w' => ∃ A c, e = .returned (.slice A ((X n a).filter fun m => T m a tk tn).length c) ∧ IR w' A (zL ((X n a).filter fun m => T m a tk tn)) ∧ Below w3.heap.size w3 w'
  len : ∀ n a, (X n a).length ≤ 480
theorem rowI_zL (l : List Nat) : rowI l = rowZ (zL l) := rowI_Z l
theorem steps_walk (A0 A1 : Option Addr) (cap0 cap1 nt n1 : Nat) (w : World)
    (HAW : Hid (∀ w1 : World, Below w.heap.size w w1 → Calls Tryd.prog 33 #[] w1 fun e w' => e = .returned (.bool true) ∧ Below w1.heap.size w1 w'))
    (HLD : Hid (∀ w1 : World, Below w.heap.size w w1 → Calls Tryd.prog 34 #[.slice A0 nt cap0] w1 fun e w' => ∃ sb N Al cl X T, e = .returned (.tuple #[.pointer (some ⟨sb, 0, none⟩), .slice Al N cl]) ∧ N ≤ 480 ∧ AskS w' sb N cl Al X T ∧ Below w1.heap.size w1 w'))
    (HT1 : Hid (∀ (w1 : World) (k : Nat), Below w.heap.size w w1 → k < n1 → ∃ ad tk tn, A1 = some ad ∧ w1.cell? (ad.add (k * 2)) = some (.int .i64 tk) ∧ w1.cell? ⟨(ad.add (k * 2)).block, (ad.add (k * 2)).off + 1, none⟩ = some (.string (ba' tn)) ∧ ad.block < w.heap.size)) :
    Calls Tryd.prog 8 #[.slice A0 nt cap0, .slice A1 n1 cap1] w fun e w' => e = .returned (.bool true) ∧ Below w.heap.size w w' := by
  obtain ⟨i3, hi3, hz30, hz31, hz32⟩ := info_parts int_info
  go_enter Tryd.func8, Tryd.ntmps8
  go_wp2_with fail
  refine (HAW.out _ (Below.refl _ _)).mono ?_
  rintro e w1 ⟨rfl, hb1⟩
  go_wp2_with fail
  refine (HLD.out _ hb1).mono ?_
  rintro e w2 ⟨sb, N, Al, cl, X, T, rfl, hN, hAsk, hb2⟩
  have B2 : Below w.heap.size w w2 := bt hb1 hb2
  have HASK := Lib.hid hAsk; have HB2 := Lib.hid B2
  clear hAsk hb1 hb2 HAW HLD B2
  go_wp2
  go_loopw [7] (fun s7 wx => ∃ k : Nat, s7 = .int .i64 (k : Int) ∧ k ≤ n1 ∧ k ≤ 6 ∧ Below w2.heap.size w2 wx) (fun s7 _ => 6 - (intOf s7).toNat)
  case atStart => exact ⟨0, rfl, by omega, by omega, Below.refl _ _⟩
  case round =>
    obtain ⟨k, rfl, hk1, hk6, hBk⟩ := hrel
    by_cases hkl : k < n1 ∧ k < 6
    · obtain ⟨hkn, hk66⟩ := hkl
      have g1 : decide ((k : Int) < (n1 : Int)) = true := by simp; omega
      have g1' : decide (k < n1) = true := by simpa using hkn
      have g2 : decide ((k : Int) < 6) = true := by simp; omega
      obtain ⟨ad1, tk, tn, hA1, c0, c1, had1⟩ := HT1.out w2 k HB2.out hkn
      subst hA1
      have HCC : Hid (∀ w3 : World, Below w2.heap.size w2 w3 → w3.cell? (ad1.add (k * 2)) = some (.int .i64 tk) ∧ w3.cell? ⟨(ad1.add (k * 2)).block, (ad1.add (k * 2)).off + 1, none⟩ = some (.string (ba' tn))) := Lib.hid fun w3 hb => by
        have hl : (ad1.add (k * 2)).block < w2.heap.size := by rw [block_of_add]; have := HB2.out.size; omega
        exact ⟨(hb.cell hl).trans c0, (hb.cell (show (⟨(ad1.add (k * 2)).block, (ad1.add (k * 2)).off + 1, none⟩ : Addr).block < w2.heap.size from hl)).trans c1⟩
      clear c0 c1 had1
      go_wp2
      go_loopw [8] (fun s8 wx => ∃ n : Nat, s8 = .int .i64 (n : Int) ∧ n ≤ N + 2 ∧ n ≤ 30 ∧ Below w2.heap.size w2 wx) (fun s8 _ => N + 2 - (intOf s8).toNat)
      case atStart => exact ⟨0, rfl, by omega, by omega, hBk⟩
      case round =>
        obtain ⟨n, rfl, hn2, hn30, hB⟩ := hrel
        clear hBk
        by_cases hlt : n ≤ N + 1 ∧ n < 30
        · obtain ⟨hlN, hl30⟩ := hlt
          have g3 : decide ((n : Int) ≤ (N : Int) + 1) = true := by simp; omega
          have g4 : decide ((n : Int) < 30) = true := by simp; omega
          go_wp2
          go_loopw [9] (fun s9 wx => ∃ a : Nat, s9 = .int .i64 (a : Int) ∧ a ≤ 12 ∧ Below w2.heap.size w2 wx) (fun s9 _ => 12 - (intOf s9).toNat)
          case atStart => exact ⟨0, rfl, by omega, hB⟩
          case round =>
            obtain ⟨a, rfl, ha, hBa⟩ := hrel
            clear hB
            by_cases hal : a ≤ 11
            · have g5 : decide ((a : Int) ≤ 11) = true := by simp; omega
              have g5' : decide (a ≤ 11) = true := by simpa using hal
              have H38 := Lib.hid (fun w3 hb => HASK.out.f38 w3 n (a : Int) tk tn hb)
              have H39 := Lib.hid (fun w3 hb => HASK.out.f39 w3 n (a : Int) tk tn hb)
              have H39m := Lib.hid (fun w3 m hb => HASK.out.f39 w3 m (a : Int) tk tn hb)
              have H35 := Lib.hid (fun w3 hb => HASK.out.f35 w3 n (a : Int) hb)
              have H40 := Lib.hid (fun w3 hb => HASK.out.f40 w3 n (a : Int) tk tn hb)
              have hxl := HASK.out.len n (a : Int)
              obtain ⟨xs, hxs⟩ : ∃ xs, X n (a : Int) = xs := ⟨_, rfl⟩
              rw [hxs] at H35 H40 hxl
              obtain ⟨ln, hln⟩ : ∃ ln, xs.length = ln := ⟨_, rfl⟩
              have HLN := Lib.hid hln
              rw [hln] at H35 hxl
              obtain ⟨tb, htb⟩ : ∃ tb, T n (a : Int) tk tn = tb := ⟨_, rfl⟩
              rw [htb] at H38 H39
              obtain ⟨d0, d1⟩ := HCC.out wr hBa
              clear hxs hln htb
              go_upto_region 15 with fail
              have hself : (tb != tb) = false := by simp
              go_cut [63] (fun s63 wx => s63 = .bool false ∧ Below w2.heap.size w2 wx)
              case first =>
                go_region_held3 (fun w' => w'.cell? (ad1.add (k * 2)) = some (.int .i64 tk) ∧ w'.cell? ⟨(ad1.add (k * 2)).block, (ad1.add (k * 2)).off + 1, none⟩ = some (.string (ba' tn)) ∧ Below w2.heap.size w2 w')
                  ((refine (fun hR : Below w2.heap.size w2 _ => ⟨(HCC.out _ hR).1, (HCC.out _ hR).2, hR⟩) ?_; repeat (with_reducible (first | exact Below.refl _ _ | assumption | apply ba | apply bd | apply bdr | (refine bs ?_ (by first | assumption | (simp; done) | (simp; omega))) | (refine bt ?_ (by assumption))))))
                  (first
                    | (go_at_call 38; go_must (refine (H38.out _ (by repeat (with_reducible (first | exact Below.refl _ _ | assumption | apply ba | apply bd | apply bdr | (refine bs ?_ (by first | assumption | (simp; done) | (simp; omega))) | (refine bt ?_ (by assumption)))))).mono ?_); rintro e w4 ⟨rfl, hb4⟩; have B4 : Below w2.heap.size w2 w4 := (by repeat (with_reducible (first | exact Below.refl _ _ | assumption | apply ba | apply bd | apply bdr | (refine bs ?_ (by first | assumption | (simp; done) | (simp; omega))) | (refine bt ?_ (by assumption))))); have ⟨_, _⟩ := HCC.out w4 B4)
                    | (go_at_call 39; go_must (refine (H39.out _ (by repeat (with_reducible (first | exact Below.refl _ _ | assumption | apply ba | apply bd | apply bdr | (refine bs ?_ (by first | assumption | (simp; done) | (simp; omega))) | (refine bt ?_ (by assumption)))))).mono ?_); rintro e w5 ⟨rfl, hb5⟩; have B5 : Below w2.heap.size w2 w5 := (by repeat (with_reducible (first | exact Below.refl _ _ | assumption | apply ba | apply bd | apply bdr | (refine bs ?_ (by first | assumption | (simp; done) | (simp; omega))) | (refine bt ?_ (by assumption))))); have ⟨_, _⟩ := HCC.out w5 B5))
                all_goals (first | (go_wp2_with fail; go_meet) | go_meet)
                all_goals exact ⟨rfl, (by repeat (with_reducible (first | exact Below.refl _ _ | assumption | apply ba | apply bd | apply bdr | (refine bs ?_ (by first | assumption | (simp; done) | (simp; omega))) | (refine bt ?_ (by assumption)))))⟩
              case rest =>
                obtain ⟨rfl, hbc⟩ := hcut
                clear d0 d1
                go_wp2_with fail
                refine (H35.out _ hbc).mono ?_
                rintro e w7 ⟨A7, c7, rfl, hR7, hb7⟩
                have B7 : Below w2.heap.size w2 w7 := bt hbc hb7
                have HR7 := Lib.hid hR7
                clear hR7 hb7
                go_wp2
                go_loopw [10, 12] (fun s10 s12 wx => ∃ (i m c : Nat) (A : Option Addr), s10 = .slice A m c ∧ s12 = .int .i64 (i : Int) ∧ i ≤ ln ∧ m ≤ i ∧ Hid (((xs.take i).filter fun q => T q (a : Int) tk tn).length = m) ∧ Hid (wx.ownsRow w7.heap.size 3 1 (.slice A m c) m (rowI ((xs.take i).filter fun q => T q (a : Int) tk tn))) ∧ Below w7.heap.size w7 wx) (fun _ s12 _ => ln - (intOf s12).toNat)
                case atStart => exact ⟨0, 0, 0, none, rfl, rfl, by omega, by omega, Lib.hid (by simp), Lib.hid (by simpa [rowI] using World.ownsRow_nil _ _ _ _), Below.refl _ _⟩
                case round =>
                  obtain ⟨i, m, c, A, rfl, rfl, hi, hmi, hml, hO, hBi⟩ := hrel
                  have B2i : Below w2.heap.size w2 wr := B7.trans (hBi.mono B7.size)
                  by_cases hil : i < ln
                  · have g6 : decide ((i : Int) < (ln : Int)) = true := by simp; omega
                    have g6' : decide (i < ln) = true := by simpa using hil
                    have hix : i < xs.length := by rw [HLN.out]; exact hil
                    obtain ⟨ad7, hA7, f0⟩ := rowIn_at HR7.out hBi hix
                    subst hA7
                    have hts : xs.take (i + 1) = xs.take i ++ [xs[i]'hix] := by rw [List.take_add_one, List.getElem?_eq_getElem hix]; rfl
                    obtain ⟨x, hx⟩ : ∃ x, xs[i]'hix = x := ⟨_, rfl⟩
                    rw [hx] at f0 hts
                    have HFX : Hid (∀ w3 : World, Below wr.heap.size wr w3 → w3.cell? (ad7.add i) = some (.int .i64 (x : Int))) := Lib.hid fun w3 hb => (hb.cell (World.block_lt_of_cell? wr _ f0)).trans f0
                    obtain ⟨b, hb⟩ : ∃ b, T x (a : Int) tk tn = b := ⟨_, rfl⟩
                    have H39x : Hid (∀ w3 : World, Below wr.heap.size wr w3 → Calls Tryd.prog 39 #[.slice Al N cl, .int .i64 (x : Int), .int .i64 (a : Int), .agg #[.int .i64 tk, .string (ba' tn)]] w3 fun e w' => e = .returned (.bool b) ∧ Below w3.heap.size w3 w') := Lib.hid fun w3 hb3 => by rw [← hb]; exact H39m.out w3 x (B2i.trans (hb3.mono B2i.size))
                    have HFS : Hid ((xs.take (i + 1)).filter (fun q => T q (a : Int) tk tn) = (xs.take i).filter (fun q => T q (a : Int) tk tn) ++ (if b = true then [x] else [])) := Lib.hid (by rw [hts, List.filter_append, ← hb]; congr 1; simp only [List.filter_cons, List.filter_nil])
                    obtain ⟨d0, d1⟩ := HCC.out wr B2i
                    clear hx hts hb hix
                    go_upto_region 22 with fail
                    go_cut [84] (fun s84 wx => s84 = .bool b ∧ Below wr.heap.size wr wx)
                    case first =>
                      go_region_held3 (fun w' => w'.cell? (ad7.add i) = some (.int .i64 (x : Int)) ∧ w'.cell? (ad1.add (k * 2)) = some (.int .i64 tk) ∧ w'.cell? ⟨(ad1.add (k * 2)).block, (ad1.add (k * 2)).off + 1, none⟩ = some (.string (ba' tn)) ∧ Below wr.heap.size wr w')
                        ((refine (fun hR : Below wr.heap.size wr _ => ⟨HFX.out _ hR, (HCC.out _ (B2i.trans (hR.mono B2i.size))).1, (HCC.out _ (B2i.trans (hR.mono B2i.size))).2, hR⟩) ?_; repeat (with_reducible (first | exact Below.refl _ _ | assumption | apply ba | apply bd | apply bdr | (refine bs ?_ (by first | assumption | (simp; done) | (simp; omega))) | (refine bt ?_ (by assumption))))))
                        (first
                          | (go_at_call 39; go_must (refine (H39x.out _ (by repeat (with_reducible (first | exact Below.refl _ _ | assumption | apply ba | apply bd | apply bdr | (refine bs ?_ (by first | assumption | (simp; done) | (simp; omega))) | (refine bt ?_ (by assumption)))))).mono ?_); rintro e w5 ⟨rfl, hb5⟩; have B5 : Below wr.heap.size wr w5 := (by repeat (with_reducible (first | exact Below.refl _ _ | assumption | apply ba | apply bd | apply bdr | (refine bs ?_ (by first | assumption | (simp; done) | (simp; omega))) | (refine bt ?_ (by assumption)))))))
                      all_goals (first | (go_wp2_with fail; go_meet) | go_meet)
                      all_goals exact ⟨rfl, (by repeat (with_reducible (first | exact Below.refl _ _ | assumption | apply ba | apply bd | apply bdr | (refine bs ?_ (by first | assumption | (simp; done) | (simp; omega))) | (refine bt ?_ (by assumption)))))⟩
                    case rest =>
                      obtain ⟨rfl, hbd⟩ := hcut
                      have f1 := HFX.out wc hbd
                      have BX : Below w7.heap.size w7 wc := bt hBi hbd
                      have hOc := own_below hO.out hbd
                      have hzc := BX.size
                      clear d0 d1 f0
                      cases b with
                      | false =>
                        have HF0 : Hid ((xs.take (i + 1)).filter (fun q => T q (a : Int) tk tn) = (xs.take i).filter (fun q => T q (a : Int) tk tn)) := Lib.hid (by rw [HFS.out]; simp)
                        have HOC := Lib.hid hOc
                        clear hOc
                        go_wp2
                        go_roundw
                        case rel => exact ⟨i + 1, m, c, A, rfl, by go_num, by omega, by omega, Lib.hid (by rw [HF0.out]; exact hml.out), Lib.hid (by rw [HF0.out]; exact HOC.out), BX⟩
                        case measure => simp [intOf]; omega
                      | true =>
                        have HF0 : Hid ((xs.take (i + 1)).filter (fun q => T q (a : Int) tk tn) = (xs.take i).filter (fun q => T q (a : Int) tk tn) ++ [x]) := Lib.hid (by rw [HFS.out]; simp)
                        have HOC := Lib.hid hOc
                        clear hOc
                        go_wp2_with (first
                          | (at_builtin
                             go_must (refine wpList_append_any _ rfl (.tmp 85) (.tmp 90) _ rfl w7.heap.size 3 i3 _ 1 8 Tryd.underlying55 hi3 hz30 hz31 hz32 rfl (by omega) (.slice A m c) m (rowI ((xs.take i).filter fun q => T q (a : Int) tk tn)) rfl (HOC.out.alloc _) (wc.heap.size + 1) (some ⟨wc.heap.size, 0, none⟩) 1 1 [.int .i64 (x : Int)] rfl ⟨rfl, fun _ => ⟨_, rfl, by simp, one_new _ _ _⟩⟩ (by intro u hu; simp at hu; subst hu; rfl) (by simp only [maxLen]; omega) (by omega) (by simp; omega) ?_)
                             intro v5 w5 hown5 hg5 hat5
                             obtain ⟨A5, c5, rfl⟩ := own_slice hown5
                             have HX := Lib.hid (⟨hown5, (ba BX).grown hg5 (by simp; omega) (fun q hq => (own_lt HOC.out hq).1)⟩ : w5.ownsRow w7.heap.size 3 1 (.slice A5 (m + 1) c5) (m + 1) (rowI ((xs.take i).filter fun q => T q (a : Int) tk tn) ++ [.int .i64 (x : Int)]) ∧ Below w7.heap.size w7 w5)
                             clear hown5 hg5 hat5))
                        go_roundw
                        case rel => exact ⟨i + 1, m + 1, c5, A5, by first | rfl | go_num, by go_num, by omega, by omega, Lib.hid (by rw [HF0.out, List.length_append, hml.out]; rfl), Lib.hid (by rw [HF0.out, rowI_snoc]; exact HX.out.1), HX.out.2⟩
                        case measure => simp [intOf]; omega
                  · obtain rfl : i = ln := by omega
                    have g6 : decide ((i : Int) < (i : Int)) = false := by simp
                    have hta : xs.take i = xs := List.take_of_length_le (by rw [HLN.out]; omega)
                    have hml' := hml.out
                    have hO' := hO.out
                    rw [hta] at hml' hO'
                    have HIO : Hid (IR wr A (zL (xs.filter fun q => T q (a : Int) tk tn))) := Lib.hid (ir_own (by rw [← rowI_zL]; exact hO'))
                    obtain ⟨ys, hys⟩ : ∃ ys, xs.filter (fun q => T q (a : Int) tk tn) = ys := ⟨_, rfl⟩
                    rw [hys] at hml' HIO H40
                    have HYL : Hid ((zL ys).length = m) := Lib.hid (by rw [zL_len]; exact hml')
                    rw [hml'] at H40
                    obtain ⟨d0, d1⟩ := HCC.out wr B2i
                    clear hta hml' hO' hys hml hO
                    go_wp2_with fail
                    refine (H40.out _ B2i).mono ?_
                    rintro e w8 ⟨A8, c8, rfl, hI8, hb8⟩
                    have B8 : Below w2.heap.size w2 w8 := bt B2i hb8
                    have HX8 := Lib.hid (ints_same A8 A (zL ys) m c8 c w8 HYL.out (by omega) hI8 (HIO.out.below hb8))
                    clear hI8 hb8 d0 d1
                    go_wp2_with fail
                    refine HX8.out.mono ?_
                    rintro e w9 ⟨rfl, hb9⟩
                    have B9 : Below w2.heap.size w2 w9 := bt B8 hb9
                    go_wp2
                    go_roundw
                    case rel => exact ⟨a + 1, by go_num, by omega, B9⟩
                    case measure => simp [intOf]; omega
            · have g5 : decide ((a : Int) ≤ 11) = false := by simp; omega
              have g5' : decide (a ≤ 11) = false := by simpa using hal
              go_wp2
              go_roundw
              case rel => exact ⟨n + 1, by go_num, by omega, by omega, hBa⟩
              case measure => simp [intOf]; omega
        · by_cases h1 : n ≤ N + 1
          · have g3 : decide ((n : Int) ≤ (N : Int) + 1) = true := by simp; omega
            have g4 : decide ((n : Int) < 30) = false := by simp; omega
            have g4' : decide (n < 30) = false := by simp; omega
            go_wp2
            go_roundw
            case rel => exact ⟨k + 1, by go_num, by omega, by omega, hB⟩
            case measure => simp [intOf]; omega
          · have g3 : decide ((n : Int) ≤ (N : Int) + 1) = false := by simp; omega
            go_wp2
            go_roundw
            case rel => exact ⟨k + 1, by go_num, by omega, by omega, hB⟩
            case measure => simp [intOf]; omega
    · have BF : Below w.heap.size w wr := bt HB2.out hBk
      by_cases h1 : k < n1
      · have g1 : decide ((k : Int) < (n1 : Int)) = true := by simp; omega
        have g1' : decide (k < n1) = true := by simpa using h1
        have g2 : decide ((k : Int) < 6) = false := by simp; omega
        have g2' : decide (k < 6) = false := by simp; omega
        go_wp2
        go_ret
        exact ⟨rfl, BF⟩
      · have g1 : decide ((k : Int) < (n1 : Int)) = false := by simp; omega
        have g1' : decide (k < n1) = false := by simpa using h1
        go_wp2
        go_ret
        exact ⟨rfl, BF⟩
end Go.Proofs.YtcmlfkoeajpliaaDoor
namespace Go.Proofs.YtcmlfkoeajpliaaDoor
open Go.Joins Go.ChangeShapes Go.WideShapes Go.ChangeAt Go.RowKit Go.Lib Go.Deep
set_option maxRecDepth 100000
theorem rowS_len (L : List (Int × List UInt8)) : (rowS L).length = L.length * 2 := by
  induction L with
  | nil => rfl
  | cons a L ih =>
    have e : rowS (a :: L) = [.int .i64 a.1, .string (ba' a.2)] ++ rowS L := rfl
    rw [e, List.length_append, ih, List.length_cons]
    simp
    omega
theorem open_tests {H : Type} {enc : TypeId × Value → H} {W : World} {base b0 : Nat} {held : Bool} {r : Reach} {v : Value} {d : DataW H} {p : List MemPlace} (hv : Value.okWide Tryd.prog W r b0 60 v) (h : DataW.Trod enc Tryd.prog W base (fun _ => true) held 60 v d p) :
    ∃ (A : Option Addr) (cap : Nat) (ts : List (Int × List UInt8)), v = .slice A ts.length cap ∧ RdP (fun b => b < W.heap.size) W 2 A ts.length (rowS ts) := by
  obtain ⟨A, len, cap, rfl⟩ := okWide_slice Tryd.underlying60 hv
  obtain ⟨fuel, hf⟩ := h
  rcases open_slice_fields Tryd.underlying60 Tryd.underlying64 (by kernel_rfl) (by kernel_rfl) hf with ⟨hcs, _⟩ | ⟨a, len', c, m, D, Pl, hcs, _, hl, hcm, hm, hx, hi⟩
  · simp [Value.cells] at hcs
    obtain ⟨rfl, rfl, rfl⟩ := hcs
    exact ⟨none, 0, [], rfl, ⟨by simp [rowS], fun h => absurd h (by simp)⟩⟩
  · simp [Value.cells] at hcs
    obtain ⟨rfl, rfl, rfl⟩ := hcs
    simp only [if_true] at hm
    subst hm
    obtain ⟨f, hf⟩ := pick_fn (n := len) (p := fun i (q : Int × List UInt8) => W.cell? (a.add (i * 2)) = some (.int .i64 q.1) ∧ W.cell? (a.add (i * 2 + 1)) = some (.string (ba' q.2))) (0, []) (fun i hlt => by
      obtain ⟨ys, n, hD, _, hyl, hf⟩ := hi i (by omega)
      obtain ⟨v0, y0, hc0, g0, t0⟩ := hf 0 _ rfl
      obtain ⟨v1, y1, hc1, g1, t1⟩ := hf 1 _ rfl
      obtain ⟨n0, h0, e0, w0⟩ := DataW.trod_int Tryd.underlying62 t0
      obtain ⟨s1, h1, e1, w1⟩ := DataW.trod_string Tryd.underlying9 t1
      cases h0
      cases h1
      exact ⟨(n0, s1.data.toList), hc0, hc1⟩)
    have hll : ((List.range len).map f).length = len := by simp
    refine ⟨some a, _, (List.range len).map f, by rw [hll], ⟨by rw [rowS_len], fun h0 => ⟨a, rfl, ?_, fun j u hu => ?_⟩⟩⟩
    · rw [hll] at h0
      exact World.block_lt_of_cell? _ a (by simpa [Addr.add] using (hf 0 h0).1)
    · have hj : j < len * 2 := by
        have := (List.getElem?_eq_some_iff.1 hu).1
        rw [rowS_len, hll] at this
        exact this
      have hlt : j / 2 < len := by omega
      have hg : ((List.range len).map f)[j / 2]? = some (f (j / 2)) := by simp [hlt]
      obtain ⟨r0, r1⟩ := rowS_at _ _ _ hg
      rcases (by omega : j % 2 = 0 ∨ j % 2 = 1) with e | e
      · have ej : j / 2 * 2 = j := by omega
        rw [ej] at r0
        rw [r0] at hu
        cases hu
        have := (hf _ hlt).1
        rwa [ej] at this
      · have ej : j / 2 * 2 + 1 = j := by omega
        rw [ej] at r1
        rw [r1] at hu
        cases hu
        have := (hf _ hlt).2
        rwa [ej] at this
theorem askS_of {w2 : World} {sb c cl : Nat} {A Al : Option Addr} {L : List En} (hS : StoreAt w2 sb 1000 A c L) (hA : ListAt w2 Al L) (hF : ListFull w2 Al L) (h4 : L.length ≤ 480) (hO : Ord L.length (kdN L) (prN L) (enN L)) :
    AskS w2 sb L.length cl Al (axL L.length (kdN L) (prN L) (enN L)) (fun n a tk tn => takesF (kdN L n) (nmN L n) a tk tn) := by
  refine ⟨fun w3 n a tk tn hb => takes_any (hS.below hb) (by omega) n a tk tn, fun w3 n a tk tn hb => takesRef Al cl L n a tk tn w3 (hF.below hb) hO h4, fun w3 n a hb => ?_, fun w3 n a tk tn hb => ?_, fun n a => ?_⟩
  · refine (walkRef Al cl L n a w3 (hA.below hb) hO h4).mono ?_
    rintro e w' ⟨A1, c1, rfl, hR, hb', _, _⟩
    exact ⟨A1, c1, rfl, rowIn_of hR rfl, hb'⟩
  · have hle := axL_len L.length (kdN L) (prN L) (enN L) n a
    refine (step_any (hS.below hb) (by omega) hO n a tk tn _ rfl (by omega) (fun m => takesF (kdN L m) (nmN L m) a tk tn) (fun m => rfl)).mono ?_
    rintro e w' ⟨A1, c1, rfl, hR, hb'⟩
    exact ⟨A1, c1, rfl, ir_nat hR, hb'⟩
  · exact Nat.le_trans (axL_len _ _ _ _ n a) h4
theorem axsteps_law (A0 : Option Addr) (cap0 : Nat) (ts : List Tr) (A1 : Option Addr) (cap1 : Nat) (ss : List (Int × List UInt8)) (w : World) (hT : tabs w) (hR : RdP (fun b => b < w.heap.size) w 5 A0 ts.length (rowT ts)) (hin : ∀ t ∈ ts, t.In (fun b => b < w.heap.size) w) (hbk : ∀ t ∈ ts, t.pl.bulk ≤ 1048576) (hR1 : RdP (fun b => b < w.heap.size) w 2 A1 ss.length (rowS ss)) :
    Calls Tryd.prog 8 #[.slice A0 ts.length cap0, .slice A1 ss.length cap1] w fun e w' => e = .returned (.bool true) ∧ Below w.heap.size w w' := by
  refine steps_walk A0 A1 cap0 cap1 ts.length ss.length w (Lib.hid fun w1 hb => awake6 w1 (Utf8Tabs_below hT hb)) (Lib.hid fun w1 hb => ?_) (Lib.hid fun w1 k hb hk => ?_)
  · refine (laid_ord A0 cap0 ts.length ts w1 (Utf8Tabs_below hT hb) (hR.keep (fun b h => Nat.lt_of_lt_of_le h hb.size) (fun p h => hb.cell h)) rfl (fun t ht => ((hin t ht).below (fun _ h => h) hb).keep (fun b h => Nat.lt_of_lt_of_le h hb.size) (fun p _ => rfl)) hbk).mono ?_
    rintro e w' ⟨sb, A, c, Al, cl, us, rfl, hL, h4, hO⟩
    exact ⟨sb, _, Al, cl, _, _, rfl, h4, askS_of hL.store (listAt_of hL.own) (listFull_of hL.own) h4 hO, hL.below⟩
  · obtain ⟨ad, tk, tn, e, hl, c0, c1⟩ := tests_at hR1 rfl hk
    have hbl : (ad.add (k * 2)).block < w.heap.size := by rw [block_of_add]; exact hl
    exact ⟨ad, tk, tn, e, (hb.cell hbl).trans c0, (hb.cell (show (⟨(ad.add (k * 2)).block, (ad.add (k * 2)).off + 1, none⟩ : Addr).block < w.heap.size from hbl)).trans c1, hl⟩
end Go.Proofs.YtcmlfkoeajpliaaDoor
