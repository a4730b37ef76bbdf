/- The statement AxisWalks. No condition beyond what the theorems state. -/
import Derived.Test.YtcmlfkoeajpliaaDoorRefWalk
namespace Go.Proofs.YtcmlfkoeajpliaaDoor
open Go.RowKit Go.Lib
set_option maxRecDepth 100000
set_option maxHeartbeats 8000000
theorem lawWalk_zero (sb : Nat) (n : Nat) (a : Int) (w : World) :
    Calls Tryd.prog 37 #[.pointer (some ⟨sb, 0, none⟩), .int .i64 (n : Int), .int .i64 a, .int .i64 0] w fun e w' => e = .returned (.slice none 0 0) ∧ Below w.heap.size w w' := by
  go_enter Tryd.func37, Tryd.ntmps37
  go_wp2
  go_ret
  exact ⟨rfl, ba (ba (Below.refl _ _))⟩
/-- A row of numbers in memory, as it is compared. -/
theorem ir_nat {P : Nat → Prop} {w : World} {A : Option Addr} {n : Nat} {l : List Nat} (h : RdP P w 1 A n (rowI l)) : IR w A (l.map fun (j : Nat) => (j : Int)) := ir_of (n := n) (by rw [← rowI_Z]; exact h)
theorem IR.take {w : World} {A : Option Addr} {xs : List Int} (h : IR w A xs) (k : Nat) : IR w A (xs.take k) := fun hne => by
  obtain ⟨ad, e, hc⟩ := h (fun e => hne (by rw [e]; simp))
  exact ⟨ad, e, fun j d hd => hc j d (by rw [List.getElem?_take] at hd; split at hd; exact hd; cases hd)⟩
theorem lawWalk_all {sb lim : Nat} {A : Option Addr} {c : Nat} {L : List En} {w : World} (hS : StoreAt w sb lim A c L) (hL : L.length ≤ 480) (hO : Ord L.length (kdN L) (prN L) (enN L)) (n : Nat) (a : Int) (most : Nat) :
    Calls Tryd.prog 37 #[.pointer (some ⟨sb, 0, none⟩), .int .i64 (n : Int), .int .i64 a, .int .i64 (most : Int)] w fun e w' => ∃ A c, e = .returned (.slice A (min most (axL L.length (kdN L) (prN L) (enN L) n a).length) c) ∧ IR w' A (((axL L.length (kdN L) (prN L) (enN L) n a).map fun (j : Nat) => (j : Int)).take most) ∧ Below w.heap.size w w' := by
  have hle := axL_len L.length (kdN L) (prN L) (enN L) n a
  rcases Nat.eq_zero_or_pos most with h0 | h0
  · subst h0
    refine (lawWalk_zero sb n a w).mono ?_
    rintro e w' ⟨rfl, hb⟩
    exact ⟨none, 0, by rw [Nat.zero_min], fun h => absurd (by simp) h, hb⟩
  · refine (lawWalk_any hS (by omega) hO n a most h0 _ rfl (by omega)).mono ?_
    rintro e w' ⟨A1, c1, rfl, hR, hb⟩
    refine ⟨A1, c1, by rw [List.length_take], ?_, hb⟩
    have := ir_nat hR
    rwa [List.map_take] at this
/-- The rest of a division, made positive. -/
theorem stop_mod (s : Int) : ∃ q : Nat, q ≤ 4 ∧ (wrap64 (s.tmod 5 + 5)).tmod 5 = (q : Int) := by
  have h1 := Int.tmod_lt_of_pos s (by decide : (0 : Int) < 5)
  have h2 := Int.tmod_lt_of_pos (-s) (by decide : (0 : Int) < 5)
  rw [Int.neg_tmod] at h2
  have e : wrap64 (s.tmod 5 + 5) = s.tmod 5 + 5 := by unfold wrap64; omega
  rw [e, Int.tmod_eq_emod_of_nonneg (by omega)]
  exact ⟨((s.tmod 5 + 5) % 5).toNat, by omega, by omega⟩
end Go.Proofs.YtcmlfkoeajpliaaDoor
namespace Go.Proofs.YtcmlfkoeajpliaaDoor
open Go.RowKit Go.Lib
set_option maxRecDepth 100000
set_option maxHeartbeats 16000000
def zL (l : List Nat) : List Int := l.map fun (j : Nat) => (j : Int)
theorem zL_len (l : List Nat) : (zL l).length = l.length := by unfold zL; rw [List.length_map]
/-- What a law of the axes asks, in whatever later world: the walk, and the reference's. -/
def AskW (w2 : World) (sb N cl : Nat) (Al : Option Addr) (X : Nat → Int → List Int) : Prop :=
  (∀ (w3 : World) (n most : Nat) (a : Int), Below w2.heap.size w2 w3 → Calls Tryd.prog 37 #[.pointer (some ⟨sb, 0, none⟩), .int .i64 (n : Int), .int .i64 a, .int .i64 (most : Int)] w3 fun e w' => ∃ A c, e = .returned (.slice A (min most (X n a).length) c) ∧ IR w' A ((X n a).take most) ∧ Below w3.heap.size w3 w') ∧
  (∀ (w3 : World) (n : Nat) (a : Int), Below w2.heap.size w2 w3 → Calls Tryd.prog 35 #[.slice Al N cl, .int .i64 (n : Int), .int .i64 a] w3 fun e w' => ∃ A c, e = .returned (.slice A (X n a).length c) ∧ IR w' A (X n a) ∧ Below w3.heap.size w3 w' ∧ (X n a).length ≤ c ∧ c ≤ maxLen) ∧ ∀ n a, (X n a).length ≤ 480
theorem walks_walk (A0 : Option Addr) (cap0 nt : Nat) (stop : Int) (w : World)
    (HAW : Hid (∀ w1 : World, Below w.heap.size w w1 → Calls Tryd.prog 33 #[] w1 fun e w' => e = .returned (.bool true) ∧ Below w1.heap.size w1 w'))
    (HLD : Hid (∀ w1 : World, Below w.heap.size w w1 → Calls Tryd.prog 34 #[.slice A0 nt cap0] w1 fun e w' => ∃ sb N Al cl X, e = .returned (.tuple #[.pointer (some ⟨sb, 0, none⟩), .slice Al N cl]) ∧ N ≤ 480 ∧ AskW w' sb N cl Al X ∧ Below w1.heap.size w1 w')) :
    Calls Tryd.prog 7 #[.slice A0 nt cap0, .int .i64 stop] w fun e w' => e = .returned (.bool true) ∧ Below w.heap.size w w' := by
  obtain ⟨kq, hkq, hkm⟩ := stop_mod stop
  go_enter Tryd.func7, Tryd.ntmps7
  go_wp2_with fail
  refine (HAW.out _ (Below.refl _ _)).mono ?_
  rintro e w1 ⟨rfl, hb1⟩
  go_wp2_with fail
  refine (HLD.out _ hb1).mono ?_
  rintro e w2 ⟨sb, N, Al, cl, X, rfl, hN, hAsk, hb2⟩
  have B2 : Below w.heap.size w w2 := bt hb1 hb2
  have HASK := Lib.hid hAsk; have HB2 := Lib.hid B2
  clear hAsk hb1 hb2 HAW HLD B2
  go_wp2
  go_loopw [7] (fun s7 wx => ∃ n : Nat, s7 = .int .i64 (n : Int) ∧ n ≤ N + 2 ∧ n ≤ 40 ∧ Below w2.heap.size w2 wx) (fun s7 _ => N + 2 - (intOf s7).toNat)
  case atStart => exact ⟨0, rfl, by omega, by omega, Below.refl _ _⟩
  case round =>
    obtain ⟨n, rfl, hn2, hn40, hB⟩ := hrel
    by_cases hlt : n ≤ N + 1 ∧ n < 40
    · obtain ⟨hlN, hl40⟩ := hlt
      have g1 : decide ((n : Int) ≤ (N : Int) + 1) = true := by simp; omega
      have g2 : decide ((n : Int) < 40) = true := by simp; omega
      go_wp2
      go_loopw [8] (fun s8 wx => ∃ a : Nat, s8 = .int .i64 (a : Int) ∧ a ≤ 12 ∧ Below w2.heap.size w2 wx) (fun s8 _ => 12 - (intOf s8).toNat)
      case atStart => exact ⟨0, rfl, by omega, hB⟩
      case round =>
        obtain ⟨a, rfl, ha, hBa⟩ := hrel
        clear hB
        by_cases hal : a ≤ 11
        · have g3 : decide ((a : Int) ≤ 11) = true := by simp; omega
          have g3' : decide (a ≤ 11) = true := by simpa using hal
          obtain ⟨hw37, hw35, hxl⟩ := HASK.out
          have HW := Lib.hid (fun w3 most hb => hw37 w3 n most (a : Int) hb)
          have HR := Lib.hid (fun w3 hb => hw35 w3 n (a : Int) hb)
          have hxl' := hxl n a
          obtain ⟨xs, hxs⟩ : ∃ xs, X n (a : Int) = xs := ⟨_, rfl⟩
          rw [hxs] at HW HR hxl'
          obtain ⟨ln, hln⟩ : ∃ ln, xs.length = ln := ⟨_, rfl⟩
          have HLN := Lib.hid hln
          rw [hln] at HW HR hxl'
          clear hw37 hw35 hxl hxs hln
          go_wp2_with fail
          refine (HR.out _ hBa).mono ?_
          rintro e w3 ⟨A3, c3, rfl, hI3, hb3, hc3, hcm⟩
          have B3 : Below w2.heap.size w2 w3 := bt hBa hb3
          have HI3 := Lib.hid hI3
          clear hb3 hI3
          have HW1000 := Lib.hid (fun w3 hb => HW.out w3 1000 hb)
          have em : min 1000 ln = ln := by omega
          have et : xs.take 1000 = xs := List.take_of_length_le (by have := HLN.out; omega)
          rw [em, et] at HW1000
          clear em et
          go_wp2_with fail
          refine (HW1000.out _ B3).mono ?_
          rintro e w4 ⟨A4, c4, rfl, hI4, hb4⟩
          have B4 : Below w2.heap.size w2 w4 := bt B3 hb4
          have HX4 := Lib.hid (ints_same A4 A3 xs ln c4 c3 w4 HLN.out (by omega) hI4 (HI3.out.below hb4))
          have HI4 := Lib.hid (HI3.out.below hb4)
          clear hI4 hb4
          go_wp2_with fail
          refine HX4.out.mono ?_
          rintro e w5 ⟨rfl, hb5⟩
          have B5 : Below w2.heap.size w2 w5 := bt B4 hb5
          have HI5 := Lib.hid (HI4.out.below hb5)
          clear hb5
          go_wp2_with fail
          refine (HW1000.out _ B5).mono ?_
          rintro e w6 ⟨A6, c6, rfl, hI6, hb6⟩
          have B6 : Below w2.heap.size w2 w6 := bt B5 hb6
          have HX6 := Lib.hid (ints_same A6 A3 xs ln c6 c3 w6 HLN.out (by omega) hI6 (HI5.out.below hb6))
          have HI6 := Lib.hid (HI5.out.below hb6)
          clear hI6 hb6
          go_wp2_with fail
          refine HX6.out.mono ?_
          rintro e w7 ⟨rfl, hb7⟩
          have B7 : Below w2.heap.size w2 w7 := bt B6 hb7
          have HI7 := Lib.hid (HI6.out.below hb7)
          clear hb7
          go_upto_region 16 with fail
          have HWK := Lib.hid (fun w3 hb => HW.out w3 kq hb)
          have hmn : ∃ mk, min kq ln = mk ∧ mk ≤ ln ∧ mk ≤ c3 := ⟨_, rfl, by omega, by omega⟩
          obtain ⟨mk, hmk, hml, hmc⟩ := hmn
          rw [hmk] at HWK
          have HTK : Hid ((xs.take kq).length = mk) := Lib.hid (by rw [List.length_take, HLN.out]; exact hmk)
          have hmI : min (kq : Int) (ln : Int) = (mk : Int) := by omega
          have HMK := Lib.hid hmk
          clear hmk HW HW1000 HR
          go_cut [71] (fun s71 wx => s71 = .bool false ∧ Below w2.heap.size w2 wx)
          case first =>
            go_region_with (first
              | (go_at_call 37; go_must (refine (HWK.out _ (by repeat (with_reducible (first | exact Below.refl _ _ | assumption | apply ba | apply bd | apply bdr | (refine bs ?_ (by first | assumption | (simp; done) | (simp; omega))) | (refine bt ?_ (by assumption)))))).mono ?_); rintro e w8 ⟨A8, c8, rfl, hI8, hb8⟩; have B8 : Below w7.heap.size w7 w8 := (by repeat (with_reducible (first | exact Below.refl _ _ | assumption | apply ba | apply bd | apply bdr | (refine bs ?_ (by first | assumption | (simp; done) | (simp; omega))) | (refine bt ?_ (by assumption))))))
              | (go_at_call 36; go_must (refine (ints_same A8 A3 (xs.take kq) mk c8 c3 _ HTK.out (by omega) hI8 ((HI7.out.below B8).take kq)).mono ?_); rintro e w9 ⟨rfl, hb9⟩; have B9 : Below w7.heap.size w7 w9 := bt B8 hb9))
            all_goals (first | (go_wp2_with fail; go_meet) | go_meet)
            all_goals exact ⟨rfl, bt B7 B9⟩
          case rest =>
            obtain ⟨rfl, hbc⟩ := hcut
            go_wp2
            go_roundw
            case rel => exact ⟨a + 1, by go_num, by omega, hbc⟩
            case measure => simp [intOf]; omega
        · have g3 : decide ((a : Int) ≤ 11) = false := by simp; omega
          have g3' : decide (a ≤ 11) = false := by simpa using hal
          go_wp2
          go_roundw
          case rel => exact ⟨n + 1, by go_num, by omega, by omega, hBa⟩
          case measure => simp [intOf]; omega
    · have BF : Below w.heap.size w wr := bt HB2.out hB
      by_cases h1 : n ≤ N + 1
      · have g1 : decide ((n : Int) ≤ (N : Int) + 1) = true := by simp; omega
        have g2 : decide ((n : Int) < 40) = false := by simp; omega
        have g2' : decide (n < 40) = false := by simp; omega
        go_wp2
        go_ret
        exact ⟨rfl, BF⟩
      · have g1 : decide ((n : Int) ≤ (N : Int) + 1) = false := by simp; omega
        go_wp2
        go_ret
        exact ⟨rfl, BF⟩
end Go.Proofs.YtcmlfkoeajpliaaDoor
namespace Go.Proofs.YtcmlfkoeajpliaaDoor
open Go.RowKit Go.Lib
set_option maxRecDepth 100000
/-- The laying, with the list beside the store, in whatever later world. -/
theorem ax_laid (A0 : Option Addr) (cap0 : Nat) (ts : List Tr) (w : World) (hT : tabs w) (hR : RdP (fun b => b < w.heap.size) w 5 A0 ts.length (rowT ts)) (hin : ∀ t ∈ ts, t.In (fun b => b < w.heap.size) w) (hbk : ∀ t ∈ ts, t.pl.bulk ≤ 1048576) (w1 : World) (hb : Below w.heap.size w w1) :
    Calls Tryd.prog 34 #[.slice A0 ts.length cap0] w1 fun e w' => ∃ sb A c L Al cl, e = .returned (.tuple #[.pointer (some ⟨sb, 0, none⟩), .slice Al L.length cl]) ∧ StoreAt w' sb 1000 A c L ∧ ListAt w' Al L ∧ L.length ≤ 480 ∧ Ord L.length (kdN L) (prN L) (enN L) ∧ Below w1.heap.size w1 w' := by
  refine (laid_ord A0 cap0 ts.length ts w1 (Utf8Tabs_below hT hb) (hR.keep (fun b h => Nat.lt_of_lt_of_le h hb.size) (fun p h => hb.cell h)) rfl (fun t ht => ((hin t ht).below (fun _ h => h) hb).keep (fun b h => Nat.lt_of_lt_of_le h hb.size) (fun p _ => rfl)) hbk).mono ?_
  rintro e w' ⟨sb, A, c, Al, cl, us, rfl, hL, h4, hO⟩
  exact ⟨sb, A, c, _, Al, cl, rfl, hL.store, listAt_of hL.own, h4, hO, hL.below⟩
theorem ask_of {w2 : World} {sb c cl : Nat} {A Al : Option Addr} {L : List En} (hS : StoreAt w2 sb 1000 A c L) (hA : ListAt w2 Al L) (h4 : L.length ≤ 480) (hO : Ord L.length (kdN L) (prN L) (enN L)) : AskW w2 sb L.length cl Al (fun n a => zL (axL L.length (kdN L) (prN L) (enN L) n a)) := by
  refine ⟨fun w3 n most a hb => ?_, fun w3 n a hb => ?_, fun n a => ?_⟩
  · rw [zL_len]
    exact lawWalk_all (hS.below hb) h4 hO n a most
  · rw [zL_len]
    refine (walkRef Al cl L n a w3 (hA.below hb) hO h4).mono ?_
    rintro e w' ⟨A1, c1, rfl, hR, hb', h1, h2⟩
    exact ⟨A1, c1, rfl, ir_nat hR, hb', h1, h2⟩
  · rw [zL_len]
    exact Nat.le_trans (axL_len _ _ _ _ n a) h4
theorem axwalks_law (A0 : Option Addr) (cap0 : Nat) (ts : List Tr) (stop : Int) (w : World) (hT : tabs w) (hR : RdP (fun b => b < w.heap.size) w 5 A0 ts.length (rowT ts)) (hin : ∀ t ∈ ts, t.In (fun b => b < w.heap.size) w) (hbk : ∀ t ∈ ts, t.pl.bulk ≤ 1048576) :
    Calls Tryd.prog 7 #[.slice A0 ts.length cap0, .int .i64 stop] w fun e w' => e = .returned (.bool true) ∧ Below w.heap.size w w' := by
  refine walks_walk A0 cap0 ts.length stop w (Lib.hid fun w1 hb => awake6 w1 (Utf8Tabs_below hT hb)) (Lib.hid fun w1 hb => ?_)
  refine (ax_laid A0 cap0 ts w hT hR hin hbk w1 hb).mono ?_
  rintro e w' ⟨sb, A, c, L, Al, cl, rfl, hS, hA, h4, hO, hb'⟩
  exact ⟨sb, _, Al, cl, _, rfl, h4, ask_of hS hA h4 hO, hb'⟩
end Go.Proofs.YtcmlfkoeajpliaaDoor
