/- The statement AxisParts. No condition beyond what the theorems state. -/
import Derived.Test.YtcmlfkoeajpliaaDoorAxPart
import Derived.Test.YtcmlfkoeajpliaaDoorAxWalk
import Derived.Test.YtcmlfkoeajpliaaDoorAxOrder
namespace Go.Proofs.YtcmlfkoeajpliaaDoor
open Go.RowKit Go.Lib
set_option maxRecDepth 100000
set_option maxHeartbeats 8000000
theorem par_axis {N : Nat} {kd : Nat → Int} {pr en : Nat → Nat} (h : Ord N kd pr en) {k : Nat} (h1 : 1 ≤ k) (h2 : k ≤ N) (h3 : pr k ≠ 0) : axL N kd pr en k 7 = [pr k] := by
  have hp := h.plt k h1 h2
  refine nat_unique ?_ (by simp) fun m => ?_
  · unfold axL
    rw [if_neg (by omega), if_neg (by decide)]
    exact fwd_lt _ _ _
  · rw [axL_mem, List.mem_singleton]
    have e : axP kd pr en k 7 m = true ↔ pr k = m := by simp [axP]
    rw [e]
    constructor
    · rintro ⟨_, _, h4⟩; exact h4.symm
    · rintro rfl; exact ⟨⟨h1, h2⟩, ⟨by omega, by omega⟩, rfl⟩
structure PartW (w2 : World) (sb N : Nat) (kd : Nat → Int) (pr en rt : Nat → Nat) : Prop where
  ord : Ord N kd pr en
  len : N ≤ 480
  up : ∀ n, 1 ≤ n → n ≤ N → Up en n (rt n) ∧ pr (rt n) = 0
  f32 : ∀ (w3 : World) (n : Nat), Below w2.heap.size w2 w3 → Calls Tryd.prog 32 #[.pointer (some ⟨sb, 0, none⟩), .int .i64 (n : Int)] w3 fun e w' => e = .returned (.int .i64 (kd n)) ∧ Below w3.heap.size w3 w'
  f30 : ∀ (w3 : World) (n : Nat), Below w2.heap.size w2 w3 → Calls Tryd.prog 30 #[.pointer (some ⟨sb, 0, none⟩), .int .i64 (n : Int)] w3 fun e w' => e = .returned (.int .i64 (en n : Int)) ∧ Below w3.heap.size w3 w'
  f29 : ∀ (w3 : World) (n : Nat), Below w2.heap.size w2 w3 → 1 ≤ n → n ≤ N → Calls Tryd.prog 29 #[.pointer (some ⟨sb, 0, none⟩), .int .i64 (n : Int)] w3 fun e w' => e = .returned (.int .i64 (rt n : Int)) ∧ Below w3.heap.size w3 w'
  f47 : ∀ (w3 : World) (n : Nat), Below w2.heap.size w2 w3 → 1 ≤ n → n ≤ N → kd n ≠ 3 → Calls Tryd.prog 47 #[.pointer (some ⟨sb, 0, none⟩), .int .i64 (n : Int)] w3 fun e w' => ∃ A c, e = .returned (.slice A (axL N kd pr en n 3).length c) ∧ RowAt w3.heap.size w'.heap.size w' A (axL N kd pr en n 3) ∧ Below w3.heap.size w3 w'
  f37 : ∀ (w3 : World) (n : Nat) (a : Int), Below w2.heap.size w2 w3 → Calls Tryd.prog 37 #[.pointer (some ⟨sb, 0, none⟩), .int .i64 (n : Int), .int .i64 a, .int .i64 1000] w3 fun e w' => ∃ A c, e = .returned (.slice A (axL N kd pr en n a).length c) ∧ RowAt w3.heap.size w'.heap.size w' A (axL N kd pr en n a) ∧ Below w3.heap.size w3 w'
  f7 : ∀ (w3 : World) (k : Nat), Below w2.heap.size w2 w3 → 1 ≤ k → k ≤ N → pr k ≠ 0 → Calls Tryd.prog 37 #[.pointer (some ⟨sb, 0, none⟩), .int .i64 (k : Int), .int .i64 7, .int .i64 9] w3 fun e w' => ∃ A c, e = .returned (.slice A 1 c) ∧ RowAt w3.heap.size w'.heap.size w' A [pr k] ∧ Below w3.heap.size w3 w'
theorem part_of {w2 : World} {sb lim c : Nat} {A : Option Addr} {ts : List PT} (hS : StoreAt w2 sb lim A c (layL ts 0 0)) (hr : ∀ t ∈ ts, t.right 0 = true) (h4 : (layL ts 0 0).length ≤ 480) (hO : Ord (layL ts 0 0).length (kdN (layL ts 0 0)) (prN (layL ts 0 0)) (enN (layL ts 0 0))) :
    PartW w2 sb (layL ts 0 0).length (kdN (layL ts 0 0)) (prN (layL ts 0 0)) (enN (layL ts 0 0)) (rootOf (layL ts 0 0)) := by
  have hN := layL_nest ts 0 hr
  refine ⟨hO, h4, fun n h1 h2 => root_up' hN hO n n (Nat.le_refl _) h1 h2, fun w3 n hb => kindC (hS.below hb) (by omega) n, fun w3 n hb => endC (hS.below hb) (by omega) n, fun w3 n hb h1 h2 => root_of sb lim A c _ n w3 (hS.below hb) hN (by omega) h1 h2,
    fun w3 n hb h1 h2 hk => attrs_ord (hS.below hb) hr (by omega) hO n h1 h2 hk _ rfl, fun w3 n a hb => ?_, fun w3 k hb h1 h2 h3 => ?_⟩
  · have hle := axL_len (layL ts 0 0).length (kdN (layL ts 0 0)) (prN (layL ts 0 0)) (enN (layL ts 0 0)) n a
    refine (lawWalk_any (hS.below hb) (by omega) hO n a 1000 (by omega) _ rfl (by omega)).mono ?_
    rintro e w' ⟨A1, c1, rfl, hR, hb'⟩
    rw [List.take_of_length_le (by omega)] at hR ⊢
    exact ⟨A1, c1, rfl, hR, hb'⟩
  · have he := par_axis hO h1 h2 h3
    refine (lawWalk_any (hS.below hb) (by omega) hO k 7 9 (by omega) _ he (by simp)).mono ?_
    rintro e w' ⟨A1, c1, rfl, hR, hb'⟩
    exact ⟨A1, c1, rfl, hR, hb'⟩
end Go.Proofs.YtcmlfkoeajpliaaDoor
namespace Go.Proofs.YtcmlfkoeajpliaaDoor
open Go.RowKit Go.Lib Go.Shelf
set_option maxRecDepth 100000
set_option maxHeartbeats 32000000
def sideL (N : Nat) (kd : Nat → Int) (pr en : Nat → Nat) (u q : Nat) : List Nat :=
  if q = 0 then [] else if q = 1 then segs en (axL N kd pr en u 6) else segs en (axL N kd pr en u 6) ++ segs en (axL N kd pr en u 9)
def sideA (q : Nat) : Int := if q = 1 then 9 else 6
theorem side_next {N : Nat} {kd : Nat → Int} {pr en : Nat → Nat} {u q : Nat} (h : q < 2) : sideL N kd pr en u (q + 1) = sideL N kd pr en u q ++ segs en (axL N kd pr en u (sideA q)) := by
  have : q = 0 ∨ q = 1 := by omega
  rcases this with rfl | rfl <;> simp [sideL, sideA]
theorem segs_snoc (en : Nat → Nat) (l : List Nat) (b : Nat) : segs en (l ++ [b]) = segs en l ++ List.range' b (en b + 1 - b) := by
  unfold segs; rw [List.flatMap_append]; simp
theorem take_snoc {xs : List Nat} {i : Nat} (h : i < xs.length) : xs.take (i + 1) = xs.take i ++ [xs[i]'h] := by
  rw [List.take_add_one, List.getElem?_eq_getElem h]; rfl
theorem upG_all {N : Nat} {kd : Nat → Int} {pr en : Nat → Nat} {zs ys : List Nat} {u : Nat} (hy : axL N kd pr en u 3 = ys) : zs ++ [u] ++ ys ++ sideL N kd pr en u 2 = zs ++ upG N kd pr en u := by
  subst hy
  simp [upG, sideL]
theorem parts_walk (A0 : Option Addr) (cap0 nt : Nat) (w : World)
    (HAW : Hid (∀ w1 : World, Below w.heap.size w w1 → Calls Tryd.prog 33 #[] w1 fun e w' => e = .returned (.bool true) ∧ Below w1.heap.size w1 w'))
    (HLD : Hid (∀ w1 : World, Below w.heap.size w w1 → Calls Tryd.prog 34 #[.slice A0 nt cap0] w1 fun e w' => ∃ sb N Al cl kd pr en rt, e = .returned (.tuple #[.pointer (some ⟨sb, 0, none⟩), .slice Al N cl]) ∧ PartW w' sb N kd pr en rt ∧ Below w1.heap.size w1 w')) :
    Calls Tryd.prog 10 #[.slice A0 nt cap0] w fun e w' => e = .returned (.bool true) ∧ Below w.heap.size w w' := by
  obtain ⟨i3, hi3, hz30, hz31, hz32⟩ := info_parts int_info
  go_enter Tryd.func10, Tryd.ntmps10
  go_wp2_with fail
  refine (HAW.out _ (Below.refl _ _)).mono ?_
  rintro e w1 ⟨rfl, hb1⟩
  go_wp2_with fail
  refine (HLD.out _ hb1).mono ?_
  rintro e w2 ⟨sb, N, Al, cl, kd, pr, en, rt, rfl, hP, hb2⟩
  have HB2 := Lib.hid (bt hb1 hb2)
  have HP := Lib.hid hP
  have hN4 := hP.len
  clear hP hb1 hb2 HAW HLD
  go_wp2
  go_loopw [5] (fun s5 wx => ∃ n : Nat, s5 = .int .i64 (n : Int) ∧ 1 ≤ n ∧ n ≤ N + 1 ∧ n ≤ 40 ∧ Below w2.heap.size w2 wx) (fun s5 _ => N + 1 - (intOf s5).toNat)
  case atStart => exact ⟨1, rfl, by omega, by omega, by omega, Below.refl _ _⟩
  case round =>
    obtain ⟨n, rfl, hn1, hnN, hn40, hB⟩ := hrel
    by_cases hlt : n ≤ N ∧ n < 40
    · obtain ⟨hlN, hl40⟩ := hlt
      have g1 : decide ((n : Int) ≤ (N : Int)) = true := by simp; omega
      have g1' : decide (n ≤ N) = true := by simpa using hlN
      have g2 : decide ((n : Int) < 40) = true := by simp; omega
      have g2' : decide (n < 40) = true := by simp; omega
      have HK := Lib.hid (HP.out.f32 wr n hB)
      obtain ⟨kn, hkn⟩ : ∃ kn, kd n = kn := ⟨_, rfl⟩
      rw [hkn] at HK
      have HKN := Lib.hid hkn
      clear hkn
      go_wp2_with fail
      refine HK.out.mono ?_
      rintro e w3 ⟨rfl, hb3⟩
      have B3 := bt hB hb3
      have HB3 := Lib.hid B3
      clear hb3 HK hB
      by_cases hk : kn = 3
      · subst hk
        go_wp2
        go_roundw
        case rel => exact ⟨n + 1, by go_num, by omega, by omega, by omega, HB3.out⟩
        case measure => simp [intOf]; omega
      · have g3 : (kn == 3) = false := by simpa using hk
        have HNK : Hid (kd n ≠ 3) := Lib.hid (by rw [HKN.out]; exact hk)
        clear B3
        go_wp2_with fail
        refine (HP.out.f37 w3 n 10 HB3.out).mono ?_
        rintro e w4 ⟨A4, c4, rfl, hR4, hb4⟩
        have HG4 : Hid (Grows w2.heap.size w2 [(w3.heap.size, w4.heap.size, w4)] w4 none 0 0 []) := Lib.hid (((Grows.nil w2).below HB3.out).seg hb4)
        have hxl := axL_len N kd pr en n 10
        have HUX : Hid (∀ u ∈ axL N kd pr en n 10, 1 ≤ u ∧ u ≤ N ∧ kd u ≠ 3) := Lib.hid fun u hu => by
          have hu' := (up_mem HP.out.ord hn1 hlN).1 hu
          exact ⟨hu'.1, by have := hu'.2.1; omega, up_kind HP.out.ord hlN HNK.out hu'⟩
        obtain ⟨xs, hxs⟩ : ∃ xs, axL N kd pr en n 10 = xs := ⟨_, rfl⟩
        have HXS := Lib.hid hxs
        rw [hxs] at hR4 hxl HUX
        rw [hxs]
        obtain ⟨ln, hln⟩ : ∃ ln, xs.length = ln := ⟨_, rfl⟩
        have HLN := Lib.hid hln
        rw [hln] at hxl
        rw [hln]
        have HR4 := Lib.hid hR4
        clear hxs hR4 hb4 hln
        go_wp2
        go_loopw [6, 8] (fun s6 s8 wx => ∃ (i m c : Nat) (A : Option Addr) (zs : List Nat), s6 = .slice A m c ∧ s8 = .int .i64 (i : Int) ∧ i ≤ ln ∧ m ≤ i * 500000 ∧ Hid (zs = (xs.take i).flatMap (upG N kd pr en)) ∧ Hid (Grows w2.heap.size w2 [(w3.heap.size, w4.heap.size, w4)] wx A m c zs)) (fun _ s8 _ => ln - (intOf s8).toNat)
        case atStart => exact ⟨0, 0, 0, none, [], rfl, rfl, by omega, by omega, Lib.hid (by simp), HG4⟩
        case round =>
          obtain ⟨i, m, c, A, zs, rfl, rfl, hi, hm, hzs, HG⟩ := hrel
          clear HG4
          by_cases hil : i < ln
          · have g4 : decide ((i : Int) < (ln : Int)) = true := by simp; omega
            have g4' : decide (i < ln) = true := by simpa using hil
            have hix : i < xs.length := by rw [HLN.out]; exact hil
            obtain ⟨ad4, hA4, f0⟩ := HR4.out.cell (HG.out.stay _ (.head _)).1 hix
            subst hA4
            have hts := take_snoc hix
            obtain ⟨hu1, huN, huk⟩ := HUX.out _ (List.getElem_mem hix)
            obtain ⟨u, hu⟩ : ∃ u, xs[i]'hix = u := ⟨_, rfl⟩
            rw [hu] at f0 hts hu1 huN huk
            have HTS := Lib.hid hts; have HUK := Lib.hid huk
            have zr := HG.out.big
            clear hts hu huk hix
            go_wp2_with (first
              | (
                 at_builtin
                 go_must (refine wpList_append_any _ rfl (.tmp 56) (.tmp 58) _ rfl w2.heap.size 3 i3 _ 1 8 Tryd.underlying55 hi3 hz30 hz31 hz32 rfl (by omega) (.slice A m c) m (rowI zs) rfl (HG.out.own.alloc _) (wr.heap.size + 1) (some ⟨wr.heap.size, 0, none⟩) 1 1 [.int .i64 (u : Int)] rfl ⟨rfl, fun _ => ⟨_, rfl, by simp, one_new _ _ _⟩⟩ (by intro u hu; simp at hu; subst hu; rfl) (by simp only [maxLen]; omega) (by omega) (by simp; omega) ?_)
                 intro v5 w5 hown5 hg5 hat5
                 obtain ⟨A5, c5, rfl⟩ := own_slice hown5
                 have HG5 : Hid (Grows w2.heap.size w2 [(w3.heap.size, w4.heap.size, w4)] w5 A5 (m + 1) c5 (zs ++ [u])) := Lib.hid (HG.out.grown (ba (Below.refl _ _)) (by rw [rowI_app]; exact hown5) hg5 hat5 (by rw [List.length_append, HG.out.len]; rfl))
                 have z5 := HG5.out.big
                 clear hown5 hg5 hat5))
            refine (HP.out.f47 w5 u HG5.out.bel hu1 huN HUK.out).mono ?_
            rintro e w6 ⟨A6, c6, rfl, hR6, hb6⟩
            have HG6 := Lib.hid (HG5.out.below hb6)
            have hyl := axL_len N kd pr en u 3
            obtain ⟨ys, hys⟩ : ∃ ys, axL N kd pr en u 3 = ys := ⟨_, rfl⟩
            have HYS := Lib.hid hys
            rw [hys] at hR6 hyl
            rw [hys]
            obtain ⟨ly, hly⟩ : ∃ ly, ys.length = ly := ⟨_, rfl⟩
            have HL7 := Lib.hid hly
            rw [hly] at hyl
            rw [hly]
            have HR6 := Lib.hid (hR6.reads fun b hb => hb.2)
            rw [hly] at HR6
            have z6 := HG6.out.big
            clear hys hly hR6 hb6 f0
            go_wp2_with (first
              | (
                 at_builtin
                 go_must (refine wpList_append_any _ rfl (.tmp 60) (.tmp 63) _ rfl w2.heap.size 3 i3 _ 1 8 Tryd.underlying55 hi3 hz30 hz31 hz32 rfl (by omega) (.slice A5 (m + 1) c5) (m + 1) (rowI (zs ++ [u])) rfl HG6.out.own w6.heap.size A6 ly c6 (rowI ys) rfl HR6.out (rowI_one _) (by simp only [maxLen]; omega) (by omega) (by omega) ?_)
                 intro v7 w7 hown7 hg7 hat7
                 obtain ⟨A7, c7, rfl⟩ := own_slice hown7
                 have HG7 : Hid (Grows w2.heap.size w2 [(w3.heap.size, w4.heap.size, w4)] w7 A7 (m + 1 + ly) c7 (zs ++ [u] ++ ys)) := Lib.hid (HG6.out.grown (Below.refl _ _) (by rw [rowI_app]; exact hown7) hg7 hat7 (by rw [List.length_append, HG6.out.len, HL7.out]))
                 have z7 := HG7.out.big
                 clear hown7 hg7 hat7))
            obtain ⟨m0, hm0⟩ : ∃ m0, m + 1 + ly = m0 := ⟨_, rfl⟩
            obtain ⟨z0, hz0⟩ : ∃ z0, zs ++ [u] ++ ys = z0 := ⟨_, rfl⟩
            have hm0' : m0 ≤ i * 500000 + 481 := by omega
            rw [hm0, hz0] at HG7
            have HZ0 := Lib.hid hz0
            simp only [hm0]
            clear hm0 hz0
            go_loopw [6, 10] (fun s6 s10 wx => ∃ (q m c : Nat) (A : Option Addr) (zs : List Nat), s6 = .slice A m c ∧ s10 = .int .i64 (q : Int) ∧ q ≤ 2 ∧ m ≤ m0 + q * 240000 ∧ Hid (zs = z0 ++ sideL N kd pr en u q) ∧ Hid (Grows w2.heap.size w2 [(w3.heap.size, w4.heap.size, w4)] wx A m c zs)) (fun _ s10 _ => 2 - (intOf s10).toNat)
            case atStart => exact ⟨0, m0, c7, A7, z0, rfl, rfl, by omega, by omega, Lib.hid (by simp [sideL]), HG7⟩
            case round =>
              obtain ⟨q, m1, c1, A1, z1, rfl, rfl, hq, hm1, hz1, HGS⟩ := hrel
              clear HG HG5 HG6 HG7 HR6
              by_cases hq2 : q < 2
              · have g5 : decide ((q : Int) < 2) = true := by simp; omega
                have g5' : decide (q < 2) = true := by simpa using hq2
                have HSN := Lib.hid (side_next (N := N) (kd := kd) (pr := pr) (en := en) (u := u) hq2)
                obtain ⟨sa, hsa⟩ : ∃ sa, sideA q = sa := ⟨_, rfl⟩
                rw [hsa] at HSN
                have HSA := Lib.hid hsa
                clear hsa
                go_upto_if 70 with fail
                go_cut [11] (fun s11 wx => s11 = .int .i64 sa ∧ wx = wr)
                case first =>
                  have hqq : q = 0 ∨ q = 1 := by omega
                  rcases hqq with rfl | rfl
                  · obtain rfl : sa = 6 := HSA.out.symm.trans rfl
                    go_wp2_with fail
                    go_meet
                    exact ⟨rfl, rfl⟩
                  · obtain rfl : sa = 9 := HSA.out.symm.trans rfl
                    go_wp2_with fail
                    go_meet
                    exact ⟨rfl, rfl⟩
                case rest =>
                  obtain ⟨rfl, hwc⟩ := hcut
                  subst hwc
                  go_wp2_with fail
                  refine (HP.out.f37 _ u sa HGS.out.bel).mono ?_
                  rintro e w9 ⟨A9, c9, rfl, hR9, hb9⟩
                  have HG9 := Lib.hid (HGS.out.seg hb9)
                  have hbl := axL_len N kd pr en u sa
                  have HBX : Hid (∀ b ∈ axL N kd pr en u sa, b ≤ en b ∧ en b ≤ N) := Lib.hid fun b hb => HP.out.ord.enr b (ax_rng hb).2.1 (ax_rng hb).2.2
                  obtain ⟨xb, hxb⟩ : ∃ xb, axL N kd pr en u sa = xb := ⟨_, rfl⟩
                  rw [hxb] at hR9 hbl HBX HSN
                  rw [hxb]
                  obtain ⟨lb, hlb⟩ : ∃ lb, xb.length = lb := ⟨_, rfl⟩
                  have HLB := Lib.hid hlb
                  rw [hlb] at hbl
                  rw [hlb]
                  have HR9 := Lib.hid hR9
                  clear hxb hlb hR9 hb9
                  go_wp2
                  go_loopw [6, 13] (fun s6 s13 wx => ∃ (j m c : Nat) (A : Option Addr) (zs : List Nat), s6 = .slice A m c ∧ s13 = .int .i64 (j : Int) ∧ j ≤ lb ∧ m ≤ m1 + j * 481 ∧ Hid (zs = z1 ++ segs en (xb.take j)) ∧ Hid (Grows w2.heap.size w2 [(wc.heap.size, w9.heap.size, w9), (w3.heap.size, w4.heap.size, w4)] wx A m c zs)) (fun _ s13 _ => lb - (intOf s13).toNat)
                  case atStart => exact ⟨0, m1, c1, A1, z1, rfl, rfl, by omega, by omega, Lib.hid (by simp [segs]), HG9⟩
                  case round =>
                    obtain ⟨j, m2, c2, A2, z2, rfl, rfl, hj, hm2, hz2, HGJ⟩ := hrel
                    clear HG9
                    by_cases hjl : j < lb
                    · have g6 : decide ((j : Int) < (lb : Int)) = true := by simp; omega
                      have g6' : decide (j < lb) = true := by simpa using hjl
                      have hjx : j < xb.length := by rw [HLB.out]; exact hjl
                      obtain ⟨ad9, hA9, f1⟩ := HR9.out.cell (HGJ.out.stay _ (.head _)).1 hjx
                      subst hA9
                      have htb := take_snoc hjx
                      have HCB : Hid (∀ W, Stay wc.heap.size w9.heap.size w9 W → W.cell? (ad9.add j) = some (.int .i64 ((xb[j]'hjx : Nat) : Int))) := Lib.hid fun W hs => HR9.out.cellA hs hjx
                      obtain ⟨hbe, heN⟩ := HBX.out _ (List.getElem_mem hjx)
                      obtain ⟨b, hb⟩ : ∃ b, xb[j]'hjx = b := ⟨_, rfl⟩
                      rw [hb] at f1 htb hbe heN HCB
                      have HTB := Lib.hid htb
                      have HSG := Lib.hid (segs_snoc en (xb.take j) b)
                      have HEN := Lib.hid (fun w3 hb => HP.out.f30 w3 b hb)
                      obtain ⟨eb, heb⟩ : ∃ eb, en b = eb := ⟨_, rfl⟩
                      rw [heb] at hbe heN HSG HEN
                      clear htb hb hjx heb
                      go_wp2
                      go_loopw [6, 14] (fun s6 s14 wx => ∃ (d m c : Nat) (A : Option Addr) (zs : List Nat), s6 = .slice A m c ∧ s14 = .int .i64 (d : Int) ∧ b ≤ d ∧ d ≤ eb + 1 ∧ m ≤ m2 + (d - b) ∧ Hid (zs = z2 ++ List.range' b (d - b)) ∧ Hid (Grows w2.heap.size w2 [(wc.heap.size, w9.heap.size, w9), (w3.heap.size, w4.heap.size, w4)] wx A m c zs)) (fun _ s14 _ => eb + 1 - (intOf s14).toNat)
                      case atStart => exact ⟨b, m2, c2, A2, z2, rfl, rfl, by omega, by omega, by omega, Lib.hid (by simp), HGJ⟩
                      case round =>
                        obtain ⟨d, m3, c3, A3, z3, rfl, rfl, hd1, hd2, hm3, hz3, HGD⟩ := hrel
                        clear f1 HGJ
                        have f2 := HCB.out _ (HGD.out.stay _ (.head _)).1
                        go_wp2_with fail
                        refine (HEN.out _ HGD.out.bel).mono ?_
                        rintro e w10 ⟨rfl, hb10⟩
                        have HG10 := Lib.hid (HGD.out.below hb10)
                        have z10 := HG10.out.big
                        clear f2 hb10
                        by_cases hde : d ≤ eb
                        · have g7 : decide ((d : Int) ≤ (eb : Int)) = true := by simp; omega
                          have g7' : decide (d ≤ eb) = true := by simpa using hde
                          go_wp2_with (first
                            | (
                               at_builtin
                               go_must (refine wpList_append_any _ rfl (.tmp 95) (.tmp 97) _ rfl w2.heap.size 3 i3 _ 1 8 Tryd.underlying55 hi3 hz30 hz31 hz32 rfl (by omega) (.slice A3 m3 c3) m3 (rowI z3) rfl (HG10.out.own.alloc _) (w10.heap.size + 1) (some ⟨w10.heap.size, 0, none⟩) 1 1 [.int .i64 (d : Int)] rfl ⟨rfl, fun _ => ⟨_, rfl, by simp, one_new _ _ _⟩⟩ (by intro u hu; simp at hu; subst hu; rfl) (by simp only [maxLen]; omega) (by omega) (by simp; omega) ?_)
                               intro v8 w8 hown8 hg8 hat8
                               obtain ⟨A8, c8, rfl⟩ := own_slice hown8
                               have HG8 : Hid (Grows w2.heap.size w2 [(wc.heap.size, w9.heap.size, w9), (w3.heap.size, w4.heap.size, w4)] w8 A8 (m3 + 1) c8 (z3 ++ [d])) := Lib.hid (HG10.out.grown (ba (Below.refl _ _)) (by rw [rowI_app]; exact hown8) hg8 hat8 (by rw [List.length_append, HG10.out.len]; rfl))
                               have z8 := HG8.out.big
                               clear hown8 hg8 hat8))
                          go_roundw
                          case rel => exact ⟨d + 1, m3 + 1, c8, A8, z3 ++ [d], by first | rfl | go_num, by go_num, by omega, by omega, by omega, Lib.hid (by rw [hz3.out, show d + 1 - b = d - b + 1 by omega, List.range'_1_concat, show b + (d - b) = d by omega, List.append_assoc]), HG8⟩
                          case measure => simp [intOf]; omega
                        · have g7 : decide ((d : Int) ≤ (eb : Int)) = false := by simp; omega
                          have g7' : decide (d ≤ eb) = false := by simpa using hde
                          obtain rfl : d = eb + 1 := by omega
                          go_wp2
                          go_roundw
                          case rel => exact ⟨j + 1, m3, c3, A3, z3, by first | rfl | go_num, by go_num, by omega, by omega, Lib.hid (by rw [hz3.out, hz2.out, HTB.out, HSG.out, List.append_assoc]), HG10⟩
                          case measure => simp [intOf]; omega
                    · obtain rfl : j = lb := by omega
                      have g6 : decide ((j : Int) < (j : Int)) = false := by simp
                      have hta : xb.take j = xb := List.take_of_length_le (by rw [HLB.out]; omega)
                      have HGE := Lib.hid HGJ.out.tail
                      go_wp2
                      go_roundw
                      case rel => exact ⟨q + 1, m2, c2, A2, z2, by first | rfl | go_num, by go_num, by omega, by omega, Lib.hid (by rw [hz2.out, hta, hz1.out, HSN.out, List.append_assoc]), HGE⟩
                      case measure => simp [intOf]; omega
              · obtain rfl : q = 2 := by omega
                go_wp2
                go_roundw
                case rel => exact ⟨i + 1, m1, c1, A1, z1, by first | rfl | go_num, by go_num, by omega, by omega, Lib.hid (by rw [hz1.out, ← HZ0.out, upG_all HYS.out, hzs.out, HTS.out, List.flatMap_append]; simp), HGS⟩
                case measure => simp [intOf]; omega
          · obtain rfl : i = ln := by omega
            have g4 : decide ((i : Int) < (i : Int)) = false := by simp
            have hta : xs.take i = xs := List.take_of_length_le (by rw [HLN.out]; omega)
            have HZ0 : Hid (zs = xs.flatMap (upG N kd pr en)) := Lib.hid (by rw [hzs.out, hta])
            have hmm : m ≤ 240000000 := by omega
            clear hta hzs HLN HR4 HUX
            rename World => wr11
            go_wp2_with fail
            refine (HP.out.f37 wr11 n 2 HG.out.bel).mono ?_
            rintro e w11 ⟨A11, c11, rfl, hR11, hb11⟩
            have HG11 := Lib.hid (HG.out.seg hb11)
            have hdl := axL_len N kd pr en n 2
            have HDX : Hid (∀ d ∈ axL N kd pr en n 2, 1 ≤ d ∧ d ≤ N ∧ kd d ≠ 3) := Lib.hid fun d hd => by
              have hd' := (dn_mem hn1 hlN).1 hd
              exact ⟨by omega, hd'.2.1, hd'.2.2.2⟩
            obtain ⟨ds, hds⟩ : ∃ ds, axL N kd pr en n 2 = ds := ⟨_, rfl⟩
            have HDS := Lib.hid hds
            rw [hds] at hR11 hdl HDX
            rw [hds]
            obtain ⟨ld, hld⟩ : ∃ ld, ds.length = ld := ⟨_, rfl⟩
            have HLD := Lib.hid hld
            rw [hld] at hdl
            rw [hld]
            have HR11 := Lib.hid hR11
            clear hds hR11 hb11 hld HG
            go_wp2
            go_loopw [6, 16] (fun s6 s16 wx => ∃ (j m' c : Nat) (A : Option Addr) (zs' : List Nat), s6 = .slice A m' c ∧ s16 = .int .i64 (j : Int) ∧ j ≤ ld ∧ m' ≤ m + j * 500 ∧ Hid (zs' = zs ++ (ds.take j).flatMap (dnG N kd pr en)) ∧ Hid (Grows w2.heap.size w2 [(wr11.heap.size, w11.heap.size, w11), (w3.heap.size, w4.heap.size, w4)] wx A m' c zs')) (fun _ s16 _ => ld - (intOf s16).toNat)
            case atStart => exact ⟨0, m, c, A, zs, rfl, rfl, by omega, by omega, Lib.hid (by simp), HG11⟩
            case round =>
              obtain ⟨j, m', c', A', zs', rfl, rfl, hj, hm', hzs', HG⟩ := hrel
              clear HG11
              by_cases hjl : j < ld
              · have g5 : decide ((j : Int) < (ld : Int)) = true := by simp; omega
                have g5' : decide (j < ld) = true := by simpa using hjl
                have hjx : j < ds.length := by rw [HLD.out]; exact hjl
                obtain ⟨ad11, hA11, f0⟩ := HR11.out.cell (HG.out.stay _ (.head _)).1 hjx
                subst hA11
                have htd := take_snoc hjx
                have HCD : Hid (∀ W, Stay wr11.heap.size w11.heap.size w11 W → W.cell? (ad11.add j) = some (.int .i64 ((ds[j]'hjx : Nat) : Int))) := Lib.hid fun W hs => HR11.out.cellA hs hjx
                obtain ⟨hd1, hdN, hdk⟩ := HDX.out _ (List.getElem_mem hjx)
                obtain ⟨d, hd⟩ : ∃ d, ds[j]'hjx = d := ⟨_, rfl⟩
                rw [hd] at f0 htd hd1 hdN hdk HCD
                have HTD := Lib.hid htd; have HDK := Lib.hid hdk
                have zr := HG.out.big
                clear htd hd hdk hjx
                go_wp2_with (first
                  | (
                     at_builtin
                     go_must (refine wpList_append_any _ rfl (.tmp 108) (.tmp 113) _ rfl w2.heap.size 3 i3 _ 1 8 Tryd.underlying55 hi3 hz30 hz31 hz32 rfl (by omega) (.slice A' m' c') m' (rowI zs') rfl (HG.out.own.alloc _) (wr.heap.size + 1) (some ⟨wr.heap.size, 0, none⟩) 1 1 [.int .i64 (d : Int)] rfl ⟨rfl, fun _ => ⟨_, rfl, by simp, one_new _ _ _⟩⟩ (by intro u hu; simp at hu; subst hu; rfl) (by simp only [maxLen]; omega) (by omega) (by simp; omega) ?_)
                     intro v12 w12 hown12 hg12 hat12
                     obtain ⟨A12, c12, rfl⟩ := own_slice hown12
                     have HG12 : Hid (Grows w2.heap.size w2 [(wr11.heap.size, w11.heap.size, w11), (w3.heap.size, w4.heap.size, w4)] w12 A12 (m' + 1) c12 (zs' ++ [d])) := Lib.hid (HG.out.grown (ba (Below.refl _ _)) (by rw [rowI_app]; exact hown12) hg12 hat12 (by rw [List.length_append, HG.out.len]; rfl))
                     have z12 := HG12.out.big
                     clear hown12 hg12 hat12
                     have f3 := HCD.out _ (HG12.out.stay _ (.head _)).1))
                refine (HP.out.f47 w12 d HG12.out.bel hd1 hdN HDK.out).mono ?_
                rintro e w13 ⟨A13, c13, rfl, hR13, hb13⟩
                have HG13 := Lib.hid (HG12.out.below hb13)
                have hyl := axL_len N kd pr en d 3
                obtain ⟨ys, hys⟩ : ∃ ys, axL N kd pr en d 3 = ys := ⟨_, rfl⟩
                have HYS := Lib.hid hys
                rw [hys] at hR13 hyl
                rw [hys]
                obtain ⟨ly, hly⟩ : ∃ ly, ys.length = ly := ⟨_, rfl⟩
                have HL14 := Lib.hid hly
                rw [hly] at hyl
                rw [hly]
                have HR13 := Lib.hid (hR13.reads fun b hb => hb.2)
                rw [hly] at HR13
                have z13 := HG13.out.big
                clear hys hly hR13 hb13 f0 f3
                go_wp2_with (first
                  | (
                     at_builtin
                     go_must (refine wpList_append_any _ rfl (.tmp 115) (.tmp 121) _ rfl w2.heap.size 3 i3 _ 1 8 Tryd.underlying55 hi3 hz30 hz31 hz32 rfl (by omega) (.slice A12 (m' + 1) c12) (m' + 1) (rowI (zs' ++ [d])) rfl HG13.out.own w13.heap.size A13 ly c13 (rowI ys) rfl HR13.out (rowI_one _) (by simp only [maxLen]; omega) (by omega) (by omega) ?_)
                     intro v14 w14 hown14 hg14 hat14
                     obtain ⟨A14, c14, rfl⟩ := own_slice hown14
                     have HG14 : Hid (Grows w2.heap.size w2 [(wr11.heap.size, w11.heap.size, w11), (w3.heap.size, w4.heap.size, w4)] w14 A14 (m' + 1 + ly) c14 (zs' ++ [d] ++ ys)) := Lib.hid (HG13.out.grown (Below.refl _ _) (by rw [rowI_app]; exact hown14) hg14 hat14 (by rw [List.length_append, HG13.out.len, HL14.out]))
                     have z14 := HG14.out.big
                     clear hown14 hg14 hat14))
                go_roundw
                case rel => exact ⟨j + 1, m' + 1 + ly, c14, A14, zs' ++ [d] ++ ys, by first | rfl | go_num, by go_num, by omega, by omega, Lib.hid (by rw [hzs'.out, HTD.out, List.flatMap_append, ← HYS.out]; simp [dnG]), HG14⟩
                case measure => simp [intOf]; omega
              · obtain rfl : j = ld := by omega
                have g5 : decide ((j : Int) < (j : Int)) = false := by simp
                have hta : ds.take j = ds := List.take_of_length_le (by rw [HLD.out]; omega)
                obtain ⟨hup, hup0⟩ := HP.out.up n hn1 hlN
                have hall : zs' = allL N kd pr en n := by rw [hzs'.out, hta, HZ0.out, ← HXS.out, ← HDS.out]; rfl
                have hml : m' = en (rt n) + 1 - rt n := by rw [← HG.out.len, hall]; exact (all_len HP.out.ord hn1 hlN HNK.out hup hup0).1
                have hol : (ordZ (zs'.map Int.ofNat)).length = m' := by rw [← HG.out.len, hall]; exact all_ord HP.out.ord hn1 hlN HNK.out hup hup0
                have hren : rt n ≤ en (rt n) := by have h1 := hup.2.1; have h2 := hup.2.2; omega
                have hreN : en (rt n) ≤ N := (HP.out.ord.enr _ hup.1 (by have := hup.2.1; omega)).2
                obtain ⟨A0', c0', e0', _, hrd⟩ := own_rd HG.out.own
                cases e0'
                have HOR := Lib.hid (order_any _ A' m' c' (zs'.map Int.ofNat) wr (by rw [rowI_Z] at hrd; exact hrd) (by omega))
                have HF29 := Lib.hid (fun w3 hb => HP.out.f29 w3 n hb hn1 hlN)
                have HF30 := Lib.hid (fun w3 hb => HP.out.f30 w3 (rt n) hb)
                obtain ⟨r, hr⟩ : ∃ r, rt n = r := ⟨_, rfl⟩
                rw [hr] at hml hren hreN HF29 HF30
                obtain ⟨E, hE⟩ : ∃ E, en r = E := ⟨_, rfl⟩
                rw [hE] at hml hren hreN HF30
                obtain ⟨ol, hol2⟩ : ∃ ol, ordZ (zs'.map Int.ofNat) = ol := ⟨_, rfl⟩
                rw [hol2] at hol
                unfold OrdLeft at HOR
                rw [hol2, hol] at HOR
                obtain ⟨p, hp⟩ : ∃ p, E - r = p := ⟨_, rfl⟩
                have e1 : IntKind.i64.wrap ((E : Int) - (r : Int)) = (p : Int) := by rw [IntKind.wrap_i64]; omega
                have e2 : IntKind.i64.wrap ((p : Int) + 1) = (m' : Int) := by rw [IntKind.wrap_i64]; omega
                have HGB := Lib.hid HG.out.bel
                clear hta hall hol hrd hup hup0 hr hE hol2 hml hp hzs' HZ0 HXS HDS HR11 HDX HG HLD
                go_wp2_with fail
                refine HOR.out.mono ?_
                rintro e w14 ⟨A14, c14, rfl, ho14, hb14⟩
                have HB14 := Lib.hid (bt HGB.out hb14)
                clear ho14 hb14 HOR
                go_wp2_with fail
                refine (HF29.out _ HB14.out).mono ?_
                rintro e w15 ⟨rfl, hb15⟩
                have HB15 := Lib.hid (bt HB14.out hb15)
                clear hb15
                go_wp2_with fail
                refine (HF30.out _ HB15.out).mono ?_
                rintro e w16 ⟨rfl, hb16⟩
                have HB16 := Lib.hid (bt HB15.out hb16)
                clear hb16
                go_wp2_with fail
                refine (HF29.out _ HB16.out).mono ?_
                rintro e w17 ⟨rfl, hb17⟩
                have HB17 := Lib.hid (bt HB16.out hb17)
                clear hb17
                go_wp2_with fail
                refine (HP.out.f37 w17 n 1 HB17.out).mono ?_
                rintro e w18 ⟨A18, c18, rfl, hR18, hb18⟩
                have HB18 := Lib.hid (bt HB17.out hb18)
                have hkl := axL_len N kd pr en n 1
                have HKX : Hid (∀ k ∈ axL N kd pr en n 1, 1 ≤ k ∧ k ≤ N ∧ pr k = n) := Lib.hid fun k hk => by
                  rw [axL_mem] at hk
                  have h3 : pr k = n ∧ kd k ≠ 3 := by simpa [axP] using hk.2.2
                  exact ⟨hk.2.1.1, hk.2.1.2, h3.1⟩
                obtain ⟨ks, hks⟩ : ∃ ks, axL N kd pr en n 1 = ks := ⟨_, rfl⟩
                rw [hks] at hR18 hkl HKX
                rw [hks]
                obtain ⟨lk, hlk⟩ : ∃ lk, ks.length = lk := ⟨_, rfl⟩
                have HLK := Lib.hid hlk
                rw [hlk] at hkl
                rw [hlk]
                have HR18 := Lib.hid hR18
                clear hks hR18 hb18 hlk
                go_wp2
                go_loopw [18] (fun s18 wx => ∃ i : Nat, s18 = .int .i64 (i : Int) ∧ i ≤ lk ∧ Below w18.heap.size w18 wx) (fun s18 _ => lk - (intOf s18).toNat)
                case atStart => exact ⟨0, rfl, by omega, Below.refl _ _⟩
                case round =>
                  obtain ⟨i, rfl, hi, hBi⟩ := hrel
                  have B2i : Below w2.heap.size w2 wr := HB18.out.trans (hBi.mono HB18.out.size)
                  by_cases hil : i < lk
                  · have g6 : decide ((i : Int) < (lk : Int)) = true := by simp; omega
                    have g6' : decide (i < lk) = true := by simpa using hil
                    have hix : i < ks.length := by rw [HLK.out]; exact hil
                    obtain ⟨ad18, hA18, f0⟩ := HR18.out.cell ((Stay.refl (Nat.le_refl _)).below hBi) hix
                    subst hA18
                    obtain ⟨hk1, hkN, hkp⟩ := HKX.out _ (List.getElem_mem hix)
                    obtain ⟨k, hk⟩ : ∃ k, ks[i]'hix = k := ⟨_, rfl⟩
                    rw [hk] at f0 hk1 hkN hkp
                    have H7 := Lib.hid (HP.out.f7 wr k B2i hk1 hkN (by omega))
                    rw [hkp] at H7
                    clear hk hix
                    go_wp2_with fail
                    refine H7.out.mono ?_
                    rintro e w19 ⟨A19, c19, rfl, hR19, hb19⟩
                    obtain ⟨ad19, hA19, f1⟩ := hR19.cell (Stay.refl (Nat.le_refl _)) (show 0 < [n].length by simp)
                    subst hA19
                    have B19 := bt hBi hb19
                    have HB19 := Lib.hid B19
                    simp only [List.getElem_cons_zero] at f1
                    have f1a : w19.cell? ad19 = some (.int .i64 (n : Int)) := by
                      obtain ⟨b19, o19, s19⟩ := ad19
                      have hs : s19 = none := by simpa [Addr.add] using World.cell?_spot f1
                      subst hs
                      rw [add_block_off] at f1
                      exact f1
                    clear f0 hR19 hb19 B19 B2i hBi H7
                    go_wp2
                    go_roundw
                    case rel => exact ⟨i + 1, by go_num, by omega, HB19.out⟩
                    case measure => simp [intOf]; omega
                  · obtain rfl : i = lk := by omega
                    have g6 : decide ((i : Int) < (i : Int)) = false := by simp
                    go_wp2
                    go_roundw
                    case rel => exact ⟨n + 1, by go_num, by omega, by omega, by omega, B2i⟩
                    case measure => simp [intOf]; omega
    · have hfin : Below w.heap.size w wr := HB2.out.trans (hB.mono HB2.out.size)
      by_cases h1 : n ≤ N
      · have g1 : decide ((n : Int) ≤ (N : Int)) = true := by simp; omega
        have g1' : decide (n ≤ N) = true := by simpa using h1
        have g2 : decide ((n : Int) < 40) = false := by simp; omega
        have g2' : decide (n < 40) = false := by simp; omega
        go_wp2
        go_ret
        exact ⟨rfl, hfin⟩
      · have g1 : decide ((n : Int) ≤ (N : Int)) = false := by simp; omega
        have g1' : decide (n ≤ N) = false := by simpa using h1
        go_wp2
        go_ret
        exact ⟨rfl, hfin⟩
end Go.Proofs.YtcmlfkoeajpliaaDoor
namespace Go.Proofs.YtcmlfkoeajpliaaDoor
open Go.RowKit Go.Lib
set_option maxRecDepth 100000
/-- The example and the laying, in whatever later world. -/
theorem parts_calls (A0 : Option Addr) (cap0 : Nat) (ts : List Tr) (w : World) (hT : tabs w) (hR : RdP (fun b => b < w.heap.size) w 5 A0 ts.length (rowT ts)) (hin : ∀ t ∈ ts, t.In (fun b => b < w.heap.size) w) (hbk : ∀ t ∈ ts, t.pl.bulk ≤ 1048576) :
    Hid (∀ w1 : World, Below w.heap.size w w1 → Calls Tryd.prog 33 #[] w1 fun e w' => e = .returned (.bool true) ∧ Below w1.heap.size w1 w') ∧
    Hid (∀ w1 : World, Below w.heap.size w w1 → Calls Tryd.prog 34 #[.slice A0 ts.length cap0] w1 fun e w' => ∃ sb N Al cl kd pr en rt, e = .returned (.tuple #[.pointer (some ⟨sb, 0, none⟩), .slice Al N cl]) ∧ PartW w' sb N kd pr en rt ∧ Below w1.heap.size w1 w') := by
  refine ⟨Lib.hid fun w1 hb => awake6 w1 (Utf8Tabs_below hT hb), Lib.hid fun w1 hb => ?_⟩
  refine (laid_ord A0 cap0 ts.length ts w1 (Utf8Tabs_below hT hb) (hR.keep (fun b h => Nat.lt_of_lt_of_le h hb.size) (fun p h => hb.cell h)) rfl (fun t ht => ((hin t ht).below (fun _ h => h) hb).keep (fun b h => Nat.lt_of_lt_of_le h hb.size) (fun p _ => rfl)) hbk).mono ?_
  rintro e w' ⟨sb, A, c, Al, cl, us, rfl, hL, h4, hO⟩
  have hr : ∀ t ∈ plL us, t.right 0 = true := by
    intro t ht
    rw [plL_map, List.mem_map] at ht
    obtain ⟨u, hu, rfl⟩ := ht
    exact (hL.fine u hu).1
  exact ⟨sb, _, Al, cl, _, _, _, _, rfl, part_of hL.store hr h4 hO, hL.below⟩
theorem axparts_law (A0 : Option Addr) (cap0 : Nat) (ts : List Tr) (w : World) (hT : tabs w) (hR : RdP (fun b => b < w.heap.size) w 5 A0 ts.length (rowT ts)) (hin : ∀ t ∈ ts, t.In (fun b => b < w.heap.size) w) (hbk : ∀ t ∈ ts, t.pl.bulk ≤ 1048576) :
    Calls Tryd.prog 10 #[.slice A0 ts.length cap0] w fun e w' => e = .returned (.bool true) ∧ Below w.heap.size w w' := by
  obtain ⟨h1, h2⟩ := parts_calls A0 cap0 ts w hT hR hin hbk
  exact parts_walk A0 cap0 ts.length w h1 h2
end Go.Proofs.YtcmlfkoeajpliaaDoor
