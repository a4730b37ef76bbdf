/- The statement AxisBack. No condition beyond what the theorems state. -/
import Derived.Test.YtcmlfkoeajpliaaDoorAxWake
namespace Go.Proofs.YtcmlfkoeajpliaaDoor
open Go.RowKit Go.Lib
set_option maxRecDepth 100000
set_option maxHeartbeats 16000000
/-- A row of numbers, in whatever later world. -/
def RowIn (w0 : World) (A : Option Addr) (xs : List Nat) : Prop := ∀ w, Below w0.heap.size w0 w → RdP (fun b => b < w.heap.size) w 1 A xs.length (rowI xs)
theorem rowIn_of {w w0 : World} {A : Option Addr} {xs : List Nat} {n : Nat} (h : RdP (NewB w w0) w0 1 A n (rowI xs)) (hn : n = xs.length) : RowIn w0 A xs := fun w1 hb => by
  subst hn
  exact h.keep (fun b hb' => Nat.lt_of_lt_of_le hb'.2 hb.size) (fun p hp => hb.cell hp.2)
theorem rowIn_at {w0 w : World} {A : Option Addr} {xs : List Nat} (h : RowIn w0 A xs) (hb : Below w0.heap.size w0 w) {j : Nat} (hj : j < xs.length) : ∃ ad, A = some ad ∧ w.cell? (ad.add j) = some (.int .i64 ((xs[j]'hj : Nat) : Int)) := by
  obtain ⟨_, h2⟩ := h w hb
  obtain ⟨ad, e, _, hc⟩ := h2 (by omega)
  refine ⟨ad, e, hc j _ ?_⟩
  unfold rowI
  rw [List.getElem?_map, List.getElem?_eq_getElem hj]
  rfl
/-- The first so many of a row have the number. -/
def hasN (xs : List Nat) (n k : Nat) : Bool := (xs.take k).contains n
theorem hasN_zero (xs : List Nat) (n : Nat) : hasN xs n 0 = false := by simp [hasN]
theorem hasN_succ (xs : List Nat) (n k : Nat) (hk : k < xs.length) : hasN xs n (k + 1) = (hasN xs n k || ((xs[k]'hk) == n)) := by
  unfold hasN
  rw [List.take_add_one, List.getElem?_eq_getElem hk]
  simp only [Option.toList_some, List.contains_eq_any_beq, List.any_append, List.any_cons, List.any_nil, Bool.or_false]
  rw [show (n == xs[k]) = (xs[k] == n) from Bool.beq_comm]
theorem hasN_all (xs : List Nat) (n : Nat) (h : n ∈ xs) : hasN xs n xs.length = true := by
  unfold hasN
  rw [List.take_length]
  simpa using h
theorem back_walk (A0 : Option Addr) (cap0 nt : Nat) (w : World)
    (HAW : Hid (∀ w1 : World, Below w.heap.size w w1 → Calls Tryd.prog 33 #[] w1 fun e w' => e = .returned (.bool true) ∧ Below w1.heap.size w1 w'))
    (HLD : Hid (∀ w1 : World, Below w.heap.size w w1 → Calls Tryd.prog 34 #[.slice A0 nt cap0] w1 fun e w' => ∃ sb A c L Al cl, e = .returned (.tuple #[.pointer (some ⟨sb, 0, none⟩), .slice Al L.length cl]) ∧ StoreAt w' sb 1000 A c L ∧ L.length ≤ 480 ∧ Ord L.length (kdN L) (prN L) (enN L) ∧ Below w1.heap.size w1 w')) :
    Calls Tryd.prog 11 #[.slice A0 nt cap0] w fun e w' => e = .returned (.bool true) ∧ Below w.heap.size w w' := by
  go_enter Tryd.func11, Tryd.ntmps11
  go_wp2_with fail
  refine (HAW.out _ (Below.refl _ _)).mono ?_
  rintro e w1 ⟨rfl, hb1⟩
  go_wp2_with fail
  refine (HLD.out _ hb1).mono ?_
  rintro e w2 ⟨sb, A, c, L, Al, cl, rfl, hS, hL4, hO, hb2⟩
  have B2 : Below w.heap.size w w2 := bt hb1 hb2
  obtain ⟨N, hN⟩ : ∃ N, L.length = N := ⟨_, rfl⟩
  have HW : Hid (∀ (w3 : World) (n : Nat) (a : Int), Below w2.heap.size w2 w3 → Calls Tryd.prog 37 #[.pointer (some ⟨sb, 0, none⟩), .int .i64 (n : Int), .int .i64 a, .int .i64 1000] w3 fun e w' => ∃ A c, e = .returned (.slice A (axL N (kdN L) (prN L) (enN L) n a).length c) ∧ RowIn w' A (axL N (kdN L) (prN L) (enN L) n a) ∧ Below w3.heap.size w3 w') := Lib.hid fun w3 n a hb => by
    have hle := axL_len L.length (kdN L) (prN L) (enN L) n a
    refine (lawWalk_any (hS.below hb) (by omega) hO n a 1000 (by omega) _ rfl (by omega)).mono ?_
    rintro e w' ⟨A1, c1, rfl, hR, hb'⟩
    rw [List.take_of_length_le (by omega)] at hR ⊢
    rw [hN] at hR ⊢
    exact ⟨A1, c1, rfl, rowIn_of hR rfl, hb'⟩
  have HLEN : Hid (∀ n a, (axL N (kdN L) (prN L) (enN L) n a).length ≤ 480) := Lib.hid fun n a => by have := axL_len N (kdN L) (prN L) (enN L) n a; omega
  rw [hN] at hL4 ⊢
  clear hS hO hN hb1 hb2 HAW HLD
  go_wp2_with fail
  obtain ⟨W0, hW0⟩ : ∃ W0, w2.alloc (.cells #[.int .i64 1, .int .i64 7, .int .i64 3, .int .i64 7, .int .i64 2, .int .i64 8, .int .i64 5, .int .i64 10, .int .i64 6, .int .i64 9, .int .i64 4, .int .i64 4] 73) = W0 := ⟨_, rfl⟩
  have hB0 : Below w2.heap.size w2 W0 := by rw [← hW0]; exact ba (Below.refl _ _)
  have hz0 : W0.heap.size = w2.heap.size + 1 := by rw [← hW0]; simp
  obtain ⟨ad, had⟩ : ∃ ad : Addr, (⟨w2.heap.size, 0, none⟩ : Addr) = ad := ⟨_, rfl⟩
  have hWA : Hid (∀ (w3 : World) (i : Nat), Below W0.heap.size W0 w3 → i < 6 → w3.cell? (ad.add (i * 2)) = some (.int .i64 (wayA i)) ∧ w3.cell? ⟨(ad.add (i * 2)).block, (ad.add (i * 2)).off + 1, none⟩ = some (.int .i64 (wayB i))) := Lib.hid fun w3 i hb hi => by
    rw [← had, addj]
    refine ⟨(hb.cell (p := ⟨w2.heap.size, i * 2, none⟩) (by show w2.heap.size < _; omega)).trans ?_, (hb.cell (p := ⟨w2.heap.size, i * 2 + 1, none⟩) (by show w2.heap.size < _; omega)).trans ?_⟩
    · rw [← hW0]
      refine row_new w2 [.int .i64 1, .int .i64 7, .int .i64 3, .int .i64 7, .int .i64 2, .int .i64 8, .int .i64 5, .int .i64 10, .int .i64 6, .int .i64 9, .int .i64 4, .int .i64 4] 73 _ _ _ rfl ?_
      have : i = 0 ∨ i = 1 ∨ i = 2 ∨ i = 3 ∨ i = 4 ∨ i = 5 := by omega
      rcases this with rfl | rfl | rfl | rfl | rfl | rfl <;> rfl
    · rw [← hW0]
      refine row_new w2 [.int .i64 1, .int .i64 7, .int .i64 3, .int .i64 7, .int .i64 2, .int .i64 8, .int .i64 5, .int .i64 10, .int .i64 6, .int .i64 9, .int .i64 4, .int .i64 4] 73 _ _ _ rfl ?_
      have : i = 0 ∨ i = 1 ∨ i = 2 ∨ i = 3 ∨ i = 4 ∨ i = 5 := by omega
      rcases this with rfl | rfl | rfl | rfl | rfl | rfl <;> rfl
  try simp only [hW0, had]
  have HB0 := Lib.hid hB0; have HB2 := Lib.hid B2
  clear hB0 hW0 hz0 had B2
  go_loopw [6] (fun s6 wx => ∃ n : Nat, s6 = .int .i64 (n : Int) ∧ 1 ≤ n ∧ n ≤ N + 1 ∧ n ≤ 30 ∧ Below W0.heap.size W0 wx) (fun s6 _ => N + 1 - (intOf s6).toNat)
  case atStart => exact ⟨1, rfl, by omega, by omega, by omega, Below.refl _ _⟩
  case round =>
    obtain ⟨n, rfl, hn1, hnN, hn30, hB⟩ := hrel
    by_cases hlt : n ≤ N ∧ n < 30
    · obtain ⟨hlN, hl30⟩ := hlt
      have g1 : decide ((n : Int) ≤ (N : Int)) = true := by simp; omega
      have g1' : decide (n ≤ N) = true := by simpa using hlN
      have g2 : decide ((n : Int) < 30) = true := by simp; omega
      go_wp2
      go_loopw [7] (fun s7 wx => ∃ i : Nat, s7 = .int .i64 (i : Int) ∧ i ≤ 6 ∧ Below W0.heap.size W0 wx) (fun s7 _ => 6 - (intOf s7).toNat)
      case atStart => exact ⟨0, rfl, by omega, hB⟩
      case round =>
        obtain ⟨i, rfl, hi6, hBi⟩ := hrel
        clear hB
        by_cases hi : i < 6
        · have g3 : decide ((i : Int) < 6) = true := by simp; omega
          have g3' : decide (i < 6) = true := by simpa using hi
          obtain ⟨d0, d1⟩ := hWA.out _ i hBi hi
          have HI := Lib.hid hi
          obtain ⟨a, ha⟩ : ∃ a, wayA i = a := ⟨_, rfl⟩
          obtain ⟨b, hb⟩ : ∃ b, wayB i = b := ⟨_, rfl⟩
          rw [ha] at d0
          rw [hb] at d1
          have HA := Lib.hid ha; have HBB := Lib.hid hb
          clear ha hb d1
          go_wp2_with fail
          refine (HW.out wr n a (HB0.out.trans (hBi.mono HB0.out.size))).mono ?_
          rintro e w3 ⟨A3, c3, rfl, hR3, hb3⟩
          have B3 : Below W0.heap.size W0 w3 := hBi.trans (hb3.mono hBi.size)
          obtain ⟨xs, hxs⟩ : ∃ xs, axL N (kdN L) (prN L) (enN L) n a = xs := ⟨_, rfl⟩
          have HM : Hid (∀ m, m ∈ xs → n ∈ axL N (kdN L) (prN L) (enN L) m b) := Lib.hid fun m hm => by
            rw [← HBB.out]
            refine way_back HI.out ?_
            rw [HA.out, hxs]; exact hm
          have hxl : xs.length ≤ 480 := by rw [← hxs]; exact HLEN.out n a
          rw [hxs] at hR3 ⊢
          obtain ⟨ln, hln⟩ : ∃ ln, xs.length = ln := ⟨_, rfl⟩
          have HLN := Lib.hid hln
          rw [hln] at hxl ⊢
          have HR3 := Lib.hid hR3
          clear hxs hR3 hb3 hBi d0 hln
          go_wp2
          go_loopw [9] (fun s9 wx => ∃ j : Nat, s9 = .int .i64 (j : Int) ∧ j ≤ ln ∧ Below w3.heap.size w3 wx) (fun s9 _ => ln - (intOf s9).toNat)
          case atStart => exact ⟨0, rfl, by omega, Below.refl _ _⟩
          case round =>
            obtain ⟨j, rfl, hj, hBj⟩ := hrel
            by_cases hjl : j < ln
            · have g4 : decide ((j : Int) < (ln : Int)) = true := by simp; omega
              have g4' : decide (j < ln) = true := by simpa using hjl
              have B0j : Below W0.heap.size W0 wr := B3.trans (hBj.mono B3.size)
              obtain ⟨ad3, hA3, e0⟩ := rowIn_at HR3.out hBj (show j < xs.length by rw [HLN.out]; exact hjl)
              subst hA3
              obtain ⟨m, hm⟩ : ∃ m, xs[j]'(by rw [HLN.out]; exact hjl) = m := ⟨_, rfl⟩
              rw [hm] at e0
              have hmem : m ∈ xs := by rw [← hm]; exact List.getElem_mem _
              have HN := Lib.hid (HM.out m hmem)
              have d1 := (hWA.out _ i B0j HI.out).2
              rw [HBB.out] at d1
              have HWR : Hid (∀ w4 : World, Below wr.heap.size wr w4 → Calls Tryd.prog 37 #[.pointer (some ⟨sb, 0, none⟩), .int .i64 (m : Int), .int .i64 b, .int .i64 1000] w4 fun e w' => ∃ A c, e = .returned (.slice A (axL N (kdN L) (prN L) (enN L) m b).length c) ∧ RowIn w' A (axL N (kdN L) (prN L) (enN L) m b) ∧ Below w4.heap.size w4 w') := Lib.hid fun w4 hb4 => HW.out w4 m b ((HB0.out.trans (B0j.mono HB0.out.size)).trans (hb4.mono (Nat.le_trans HB0.out.size B0j.size)))
              have hyl : (axL N (kdN L) (prN L) (enN L) m b).length ≤ 480 := HLEN.out m b
              obtain ⟨ys, hys⟩ : ∃ ys, axL N (kdN L) (prN L) (enN L) m b = ys := ⟨_, rfl⟩
              rw [hys] at HWR HN hyl
              obtain ⟨lm, hlm⟩ : ∃ lm, ys.length = lm := ⟨_, rfl⟩
              have HLM := Lib.hid hlm
              rw [hlm] at HWR hyl
              clear hm hmem hys hlm B0j
              go_wp2_with fail
              go_cut [11] (fun s11 wx => ∃ (A4 : Option Addr) (c4 : Nat) (w4 : World), s11 = .slice A4 lm c4 ∧ Hid (RowIn w4 A4 ys) ∧ Below w4.heap.size w4 wx ∧ Below wr.heap.size wr wx)
              case first =>
               go_region_with (go_at_call 37; go_must (refine (HWR.out _ (by repeat (with_reducible (first | exact Below.refl _ _ | assumption | apply ba | apply bd | apply bdr | (refine bs ?_ (by first | assumption | (simp; done) | (simp; omega))) | (refine bt ?_ (by assumption)))))).mono ?_); rintro e w4 ⟨A4, c4, rfl, hR4, hb4⟩)
               all_goals (first | (go_wp2_with fail; go_meet) | go_meet)
               all_goals exact ⟨A4, c4, w4, rfl, Lib.hid hR4, Below.refl _ _, (by repeat (with_reducible (first | exact Below.refl _ _ | assumption | apply ba | apply bd | apply bdr | (refine bs ?_ (by first | assumption | (simp; done) | (simp; omega))) | (refine bt ?_ (by assumption)))))⟩
              case rest =>
               obtain ⟨A4, c4, w4, rfl, hR4, hb4, hbr⟩ := hcut
               clear e0 d1
               go_wp2
               go_loopw [10, 12] (fun s10 s12 wx => ∃ (k : Nat) (bk : Bool), s10 = .bool bk ∧ s12 = .int .i64 (k : Int) ∧ k ≤ lm ∧ Hid (bk = hasN ys n k) ∧ Below wc.heap.size wc wx) (fun _ s12 _ => lm - (intOf s12).toNat)
               case atStart => exact ⟨0, false, rfl, rfl, by omega, Lib.hid (hasN_zero ys n).symm, Below.refl _ _⟩
               case round =>
                obtain ⟨k, bk, rfl, rfl, hk, hbk, hBk⟩ := hrel
                by_cases hkl : k < lm
                · have g5 : decide ((k : Int) < (lm : Int)) = true := by simp; omega
                  have g5' : decide (k < lm) = true := by simpa using hkl
                  have B4k : Below w4.heap.size w4 wr := hb4.trans (hBk.mono hb4.size)
                  obtain ⟨ad4, hA4, f0⟩ := rowIn_at hR4.out B4k (show k < ys.length by rw [HLM.out]; exact hkl)
                  subst hA4
                  have HSC := Lib.hid (hasN_succ ys n k (by rw [HLM.out]; exact hkl))
                  obtain ⟨y, hy⟩ : ∃ y, ys[k]'(by rw [HLM.out]; exact hkl) = y := ⟨_, rfl⟩
                  rw [hy] at f0 HSC
                  clear hy
                  cases bk with
                  | true =>
                    go_wp2
                    go_roundw
                    case rel => exact ⟨k + 1, true, rfl, by go_num, by omega, Lib.hid (by rw [HSC.out, ← hbk.out]; rfl), hBk⟩
                    case measure => simp [intOf]; omega
                  | false =>
                    obtain ⟨q, hq⟩ : ∃ q, (y == n) = q := ⟨_, rfl⟩
                    have hq' : ((y : Int) == (n : Int)) = q := by rw [← hq, Bool.eq_iff_iff, beq_iff_eq, beq_iff_eq]; omega
                    have HQ := Lib.hid hq
                    cases q with
                    | false =>
                      go_wp2
                      go_roundw
                      case rel => exact ⟨k + 1, false, rfl, by go_num, by omega, Lib.hid (by rw [HSC.out, ← hbk.out, HQ.out]; rfl), hBk⟩
                      case measure => simp [intOf]; omega
                    | true =>
                      go_wp2
                      go_roundw
                      case rel => exact ⟨k + 1, true, rfl, by go_num, by omega, Lib.hid (by rw [HSC.out, ← hbk.out, HQ.out]; rfl), hBk⟩
                      case measure => simp [intOf]; omega
                · have g5 : decide ((k : Int) < (lm : Int)) = false := by simp; omega
                  have g5' : decide (k < lm) = false := by simpa using hkl
                  obtain rfl : bk = true := by
                    rw [hbk.out]
                    have e : k = ys.length := by rw [HLM.out]; omega
                    rw [e]; exact hasN_all ys n HN.out
                  have B3k : Below w3.heap.size w3 wr := hBj.trans ((hbr.trans (hBk.mono hbr.size)).mono hBj.size)
                  go_wp2
                  go_roundw
                  case rel => exact ⟨j + 1, by go_num, by omega, B3k⟩
                  case measure => simp [intOf]; omega
            · have g4 : decide ((j : Int) < (ln : Int)) = false := by simp; omega
              have g4' : decide (j < ln) = false := by simpa using hjl
              have B0j : Below W0.heap.size W0 wr := B3.trans (hBj.mono B3.size)
              have hi' := HI.out
              go_wp2
              go_roundw
              case rel => exact ⟨i + 1, by go_num, by omega, B0j⟩
              case measure => simp [intOf]; omega
        · have g3 : decide ((i : Int) < 6) = false := by simp; omega
          have g3' : decide (i < 6) = false := by simpa using hi
          go_wp2
          go_roundw
          case rel => exact ⟨n + 1, by go_num, by omega, by omega, by omega, hBi⟩
          case measure => simp [intOf]; omega
    · have BF : Below w.heap.size w wr := (HB2.out.trans (HB0.out.mono HB2.out.size)).trans (hB.mono (Nat.le_trans HB2.out.size HB0.out.size))
      by_cases h1 : n ≤ N
      · have g1 : decide ((n : Int) ≤ (N : Int)) = true := by simp; omega
        have g1' : decide (n ≤ N) = true := by simpa using h1
        have g2 : decide ((n : Int) < 30) = false := by simp; omega
        have g2' : decide (n < 30) = false := by simp; omega
        go_wp2
        go_ret
        exact ⟨rfl, BF⟩
      · have g1 : decide ((n : Int) ≤ (N : Int)) = false := by simp; omega
        have g1' : decide (n ≤ N) = false := by simpa using h1
        go_wp2
        go_ret
        exact ⟨rfl, BF⟩
end Go.Proofs.YtcmlfkoeajpliaaDoor
namespace Go.Proofs.YtcmlfkoeajpliaaDoor
open Go.RowKit Go.Lib
set_option maxRecDepth 100000
/-- The example and the laying, in whatever later world. -/
theorem ax_calls (A0 : Option Addr) (cap0 : Nat) (ts : List Tr) (w : World) (hT : tabs w) (hR : RdP (fun b => b < w.heap.size) w 5 A0 ts.length (rowT ts)) (hin : ∀ t ∈ ts, t.In (fun b => b < w.heap.size) w) (hbk : ∀ t ∈ ts, t.pl.bulk ≤ 1048576) :
    Hid (∀ w1 : World, Below w.heap.size w w1 → Calls Tryd.prog 33 #[] w1 fun e w' => e = .returned (.bool true) ∧ Below w1.heap.size w1 w') ∧
    Hid (∀ w1 : World, Below w.heap.size w w1 → Calls Tryd.prog 34 #[.slice A0 ts.length cap0] w1 fun e w' => ∃ sb A c L Al cl, e = .returned (.tuple #[.pointer (some ⟨sb, 0, none⟩), .slice Al L.length cl]) ∧ StoreAt w' sb 1000 A c L ∧ L.length ≤ 480 ∧ Ord L.length (kdN L) (prN L) (enN L) ∧ Below w1.heap.size w1 w') := by
  refine ⟨Lib.hid fun w1 hb => awake6 w1 (Utf8Tabs_below hT hb), Lib.hid fun w1 hb => ?_⟩
  refine (laid_ord A0 cap0 ts.length ts w1 (Utf8Tabs_below hT hb) (hR.keep (fun b h => Nat.lt_of_lt_of_le h hb.size) (fun p h => hb.cell h)) rfl (fun t ht => ((hin t ht).below (fun _ h => h) hb).keep (fun b h => Nat.lt_of_lt_of_le h hb.size) (fun p _ => rfl)) hbk).mono ?_
  rintro e w' ⟨sb, A, c, Al, cl, us, rfl, hL, h4, hO⟩
  exact ⟨sb, A, c, _, Al, cl, rfl, hL.store, h4, hO, hL.below⟩
theorem axback_law (A0 : Option Addr) (cap0 : Nat) (ts : List Tr) (w : World) (hT : tabs w) (hR : RdP (fun b => b < w.heap.size) w 5 A0 ts.length (rowT ts)) (hin : ∀ t ∈ ts, t.In (fun b => b < w.heap.size) w) (hbk : ∀ t ∈ ts, t.pl.bulk ≤ 1048576) :
    Calls Tryd.prog 11 #[.slice A0 ts.length cap0] w fun e w' => e = .returned (.bool true) ∧ Below w.heap.size w w' := by
  obtain ⟨h1, h2⟩ := ax_calls A0 cap0 ts w hT hR hin hbk
  exact back_walk A0 cap0 ts.length w h1 h2
end Go.Proofs.YtcmlfkoeajpliaaDoor
