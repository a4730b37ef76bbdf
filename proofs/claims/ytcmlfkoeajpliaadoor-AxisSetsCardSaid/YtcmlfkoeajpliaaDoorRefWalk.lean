/- The reference tells the nodes of an axis. No condition beyond what the theorems state. -/
import Derived.Test.YtcmlfkoeajpliaaDoorRefOn
import Derived.Test.YtcmlfkoeajpliaaDoorNumbers
namespace Go.Proofs.YtcmlfkoeajpliaaDoor
open Go.RowKit Go.Lib
set_option maxRecDepth 100000
set_option maxHeartbeats 8000000
/-- The number that is looked at, from the front or from the back; what has been taken. -/
def mOf (N : Nat) (back : Bool) (i : Nat) : Nat := if back then N - i else i + 1
def accR (N : Nat) (P : Nat → Bool) (back : Bool) (i : Nat) : List Nat := ((List.range i).map (mOf N back)).filter P
theorem accR_succ (N : Nat) (P : Nat → Bool) (back : Bool) (i : Nat) : accR N P back (i + 1) = accR N P back i ++ (if P (mOf N back i) = true then [mOf N back i] else []) := by
  unfold accR
  rw [List.range_succ, List.map_append, List.filter_append]
  congr 1
  simp only [List.map_cons, List.map_nil, List.filter_cons, List.filter_nil]
theorem accR_len (N : Nat) (P : Nat → Bool) (back : Bool) (i : Nat) : (accR N P back i).length ≤ i := by
  unfold accR
  refine Nat.le_trans (List.length_filter_le _ _) ?_
  simp
theorem accR_fwd (N : Nat) (P : Nat → Bool) : accR N P false N = fwdL P N 0 := by
  unfold accR fwdL
  rw [List.range'_eq_map_range]
  congr 1
  refine List.map_congr_left fun i _ => ?_
  show mOf N false i = 0 + 1 + i
  unfold mOf
  simp
  omega
theorem accR_bwd (P : Nat → Bool) : ∀ N, accR N P true N = bwdL P (N + 1)
  | 0 => by simp [accR, bwdL]
  | N + 1 => by
    rw [bwdL, ← accR_bwd P N]
    unfold accR
    rw [List.range_succ_eq_map, List.map_cons, List.map_map, List.filter_cons]
    have e : (mOf (N + 1) true ∘ Nat.succ) = mOf N true := by
      funext i
      show mOf (N + 1) true (i + 1) = mOf N true i
      unfold mOf
      simp
    rw [e]
    show (if P (N + 1 - 0) = true then _ else _) = _
    rw [Nat.sub_zero]
    by_cases h : P (N + 1) = true
    · rw [if_pos h, if_pos ⟨by omega, h⟩]; rfl
    · rw [if_neg h, if_neg (fun h' => h h'.2)]
theorem accR_ax (N : Nat) (kd : Nat → Int) (pr en : Nat → Nat) (n : Nat) (a : Int) (h1 : 1 ≤ n) (h2 : n ≤ N) : accR N (axP kd pr en n a) (decide (a = 8 ∨ a = 9 ∨ a = 10)) N = axL N kd pr en n a := by
  unfold axL
  rw [if_neg (by omega)]
  by_cases h : a = 8 ∨ a = 9 ∨ a = 10
  · rw [if_pos h, decide_eq_true h, accR_bwd]
  · rw [if_neg h, decide_eq_false h, accR_fwd]
theorem rowI_snoc (l : List Nat) (m : Nat) : rowI (l ++ [m]) = rowI l ++ [.int .i64 (m : Int)] := by unfold rowI; simp
theorem own_cap {w : World} {base : Nat} {e : TypeId} {size n c : Nat} {A : Option Addr} {xs : List Value} (h : w.ownsRow base e size (.slice A n c) n xs) : n ≤ c ∧ c ≤ maxLen := by
  rcases h.2 with ⟨h0, h1⟩ | ⟨g, cap, cur, h0, _, _, hc, hm, _⟩
  · injection h0 with _ e2 e3
    subst e3
    exact ⟨by omega, by unfold maxLen; omega⟩
  · injection h0 with _ e2 e3
    subst e3
    exact ⟨hc, hm⟩
theorem walkRef_out (Al : Option Addr) (cl N n : Nat) (a : Int) (w : World) (h : n = 0 ∨ N < n) : Calls Tryd.prog 35 #[.slice Al N cl, .int .i64 (n : Int), .int .i64 a] w fun e w' => e = .returned (.slice none 0 0) ∧ Below w.heap.size w w' := by
  by_cases h0 : n = 0
  · subst h0
    go_enter Tryd.func35, Tryd.ntmps35
    go_wp2
    go_ret
    exact ⟨rfl, Below.refl _ _⟩
  · have g1 : decide ((n : Int) < 1) = false := by simp; omega
    have g2 : decide ((n : Int) > (N : Int)) = true := by simp; omega
    have g3 : decide ((N : Int) < (n : Int)) = true := by simp; omega
    have g4 : decide (N < n) = true := by simp; omega
    go_enter Tryd.func35, Tryd.ntmps35
    go_wp2
    go_ret
    exact ⟨rfl, Below.refl _ _⟩
theorem walkRef_in (Al : Option Addr) (cl N n : Nat) (a : Int) (P : Nat → Bool) (back : Bool) (w : World) (hback : back = decide (a = 8 ∨ a = 9 ∨ a = 10)) (h1 : 1 ≤ n) (h2 : n ≤ N) (hN : N ≤ 480)
    (HON : Hid (∀ (w1 : World) (m : Nat), Below w.heap.size w w1 → 1 ≤ m → m ≤ N → Calls Tryd.prog 64 #[.slice Al N cl, .int .i64 (n : Int), .int .i64 a, .int .i64 (m : Int)] w1 fun e w' => e = .returned (.bool (P m)) ∧ Below w1.heap.size w1 w')) :
    Calls Tryd.prog 35 #[.slice Al N cl, .int .i64 (n : Int), .int .i64 a] w fun e w' => ∃ A c, e = .returned (.slice A (accR N P back N).length c) ∧ RdP (NewB w w') w' 1 A (accR N P back N).length (rowI (accR N P back N)) ∧ Below w.heap.size w w' ∧ (accR N P back N).length ≤ c ∧ c ≤ maxLen := by
  obtain ⟨i3, hi3, hz30, hz31, hz32⟩ := info_parts int_info
  have g1 : decide ((n : Int) < 1) = false := by simp; omega
  have g2 : decide ((n : Int) > (N : Int)) = false := by simp; omega
  have g3 : decide ((N : Int) < (n : Int)) = false := by simp; omega
  have g4 : decide (N < n) = false := by simp; omega
  go_enter Tryd.func35, Tryd.ntmps35
  go_upto_region 4 with fail
  go_cut [8] (fun s8 wx => s8 = .bool back ∧ wx = w)
  case first =>
    by_cases q1 : a = 8
    · subst q1
      obtain rfl : back = true := by rw [hback]; rfl
      clear hback
      go_wp2
      go_meet
      exact ⟨rfl, rfl⟩
    · have f1 : (a == 8) = false := beq_eq_false_iff_ne.2 q1
      by_cases q2 : a = 9
      · subst q2
        obtain rfl : back = true := by rw [hback]; rfl
        clear hback
        go_wp2
        go_meet
        exact ⟨rfl, rfl⟩
      · have f2 : (a == 9) = false := beq_eq_false_iff_ne.2 q2
        by_cases q3 : a = 10
        · subst q3
          obtain rfl : back = true := by rw [hback]; rfl
          clear hback
          go_wp2
          go_meet
          exact ⟨rfl, rfl⟩
        · have f3 : (a == 10) = false := beq_eq_false_iff_ne.2 q3
          obtain rfl : back = false := by rw [hback]; simp [q1, q2, q3]
          clear hback q1 q2 q3
          go_wp2
          go_meet
          exact ⟨rfl, rfl⟩
  case rest =>
    obtain ⟨rfl, rfl⟩ := hcut
    go_wp2
    have HBK := Lib.hid hback
    clear hback
    go_loopw [7, 9] (fun s7 s9 wx => ∃ (i k c : Nat) (A : Option Addr), s7 = .slice A k c ∧ s9 = .int .i64 ((i : Int) + 1) ∧ i ≤ N ∧ k ≤ i ∧ Hid ((accR N P back i).length = k) ∧ Hid (wx.ownsRow wc.heap.size 3 1 (.slice A k c) k (rowI (accR N P back i))) ∧ Below wc.heap.size wc wx) (fun _ s9 _ => N + 1 - (intOf s9).toNat)
    case atStart => exact ⟨0, 0, 0, none, rfl, rfl, by omega, by omega, Lib.hid rfl, Lib.hid (World.ownsRow_nil _ _ _ _), Below.refl _ _⟩
    case round =>
      obtain ⟨i, k, c, A, rfl, rfl, hi, hki, hk, hO, hB⟩ := hrel
      by_cases hlt : i < N
      · have g5 : decide ((i : Int) + 1 ≤ (N : Int)) = true := by simp; omega
        have HS := Lib.hid (accR_succ N P back i)
        cases back with
        | false =>
          have HC : Hid (Calls Tryd.prog 64 #[.slice Al N cl, .int .i64 (n : Int), .int .i64 a, .int .i64 ((i : Int) + 1)] wr fun e w' => e = .returned (.bool (P (i + 1))) ∧ Below wr.heap.size wr w') := Lib.hid (by
            have := HON.out wr (i + 1) hB (by omega) (by omega)
            rwa [show (((i + 1 : Nat)) : Int) = (i : Int) + 1 by omega] at this)
          go_wp2_with fail
          refine HC.out.mono ?_
          rintro e w3 ⟨rfl, hb3⟩
          have B3 : Below wc.heap.size wc w3 := bt hB hb3
          have hO3 : w3.ownsRow wc.heap.size 3 1 (.slice A k c) k (rowI (accR N P false i)) := own_below hO.out hb3
          have hz3 := B3.size
          obtain ⟨b, hb⟩ : ∃ b, P (i + 1) = b := ⟨_, rfl⟩
          rw [hb]
          have e0 : mOf N false i = i + 1 := by unfold mOf; simp
          have hs := HS.out
          rw [e0, hb] at hs
          clear HC hb3 hb e0
          cases b with
          | false =>
            have HS' : Hid (accR N P false (i + 1) = accR N P false i) := Lib.hid (by rw [hs]; simp)
            have HO3 := Lib.hid hO3
            clear hs hO3
            go_wp2
            go_roundw
            case rel => exact ⟨i + 1, k, c, A, rfl, by go_num, by omega, by omega, Lib.hid (by rw [HS'.out]; exact hk.out), Lib.hid (by rw [HS'.out]; exact HO3.out), B3⟩
            case measure => simp [intOf]; omega
          | true =>
            have HS' : Hid (accR N P false (i + 1) = accR N P false i ++ [i + 1]) := Lib.hid (by rw [hs]; simp)
            have HO3 := Lib.hid hO3
            clear hs hO3
            go_wp2_with (first
              | (at_builtin
                 go_must (refine wpList_append_any _ rfl (.tmp 47) (.tmp 49) _ rfl wc.heap.size 3 i3 _ 1 8 Tryd.underlying55 hi3 hz30 hz31 hz32 rfl (by omega) (.slice A k c) k (rowI (accR N P false i)) rfl (HO3.out.alloc _) (w3.heap.size + 1) (some ⟨w3.heap.size, 0, none⟩) 1 1 [.int .i64 ((i : Int) + 1)] rfl ⟨rfl, fun _ => ⟨_, rfl, by simp, one_new _ _ _⟩⟩ (by intro u hu; simp at hu; subst hu; rfl) (by simp only [maxLen]; omega) (by omega) (by simp; omega) ?_)
                 intro v5 w5 hown5 hg5 hat5
                 obtain ⟨A5, c5, rfl⟩ := own_slice hown5
                 have HX := Lib.hid (⟨hown5, (ba B3).grown hg5 (by simp; omega) (fun q hq => (own_lt HO3.out hq).1)⟩ : w5.ownsRow wc.heap.size 3 1 (.slice A5 (k + 1) c5) (k + 1) (rowI (accR N P false i) ++ [.int .i64 ((i : Int) + 1)]) ∧ Below wc.heap.size wc w5)
                 clear hown5 hg5 hat5))
            go_roundw
            case rel => exact ⟨i + 1, k + 1, c5, A5, by first | rfl | go_num, by go_num, by omega, by omega, Lib.hid (by rw [HS'.out, List.length_append, hk.out]; rfl), Lib.hid (by rw [HS'.out, rowI_snoc, show (((i + 1 : Nat)) : Int) = (i : Int) + 1 by omega]; exact HX.out.1), HX.out.2⟩
            case measure => simp [intOf]; omega
        | true =>
          have HC : Hid (Calls Tryd.prog 64 #[.slice Al N cl, .int .i64 (n : Int), .int .i64 a, .int .i64 ((N : Int) + 1 - ((i : Int) + 1))] wr fun e w' => e = .returned (.bool (P (N - i))) ∧ Below wr.heap.size wr w') := Lib.hid (by
            have := HON.out wr (N - i) hB (by omega) (by omega)
            rwa [show (((N - i : Nat)) : Int) = (N : Int) + 1 - ((i : Int) + 1) by omega] at this)
          go_wp2_with fail
          refine HC.out.mono ?_
          rintro e w3 ⟨rfl, hb3⟩
          have B3 : Below wc.heap.size wc w3 := bt hB hb3
          have hO3 : w3.ownsRow wc.heap.size 3 1 (.slice A k c) k (rowI (accR N P true i)) := own_below hO.out hb3
          have hz3 := B3.size
          obtain ⟨b, hb⟩ : ∃ b, P (N - i) = b := ⟨_, rfl⟩
          rw [hb]
          have e0 : mOf N true i = N - i := by unfold mOf; simp
          have hs := HS.out
          rw [e0, hb] at hs
          clear HC hb3 hb e0
          cases b with
          | false =>
            have HS' : Hid (accR N P true (i + 1) = accR N P true i) := Lib.hid (by rw [hs]; simp)
            have HO3 := Lib.hid hO3
            clear hs hO3
            go_wp2
            go_roundw
            case rel => exact ⟨i + 1, k, c, A, rfl, by go_num, by omega, by omega, Lib.hid (by rw [HS'.out]; exact hk.out), Lib.hid (by rw [HS'.out]; exact HO3.out), B3⟩
            case measure => simp [intOf]; omega
          | true =>
            have HS' : Hid (accR N P true (i + 1) = accR N P true i ++ [N - i]) := Lib.hid (by rw [hs]; simp)
            have HO3 := Lib.hid hO3
            clear hs hO3
            go_wp2_with (first
              | (at_builtin
                 go_must (refine wpList_append_any _ rfl (.tmp 47) (.tmp 49) _ rfl wc.heap.size 3 i3 _ 1 8 Tryd.underlying55 hi3 hz30 hz31 hz32 rfl (by omega) (.slice A k c) k (rowI (accR N P true i)) rfl (HO3.out.alloc _) (w3.heap.size + 1) (some ⟨w3.heap.size, 0, none⟩) 1 1 [.int .i64 ((N : Int) + 1 - ((i : Int) + 1))] rfl ⟨rfl, fun _ => ⟨_, rfl, by simp, one_new _ _ _⟩⟩ (by intro u hu; simp at hu; subst hu; rfl) (by simp only [maxLen]; omega) (by omega) (by simp; omega) ?_)
                 intro v5 w5 hown5 hg5 hat5
                 obtain ⟨A5, c5, rfl⟩ := own_slice hown5
                 have HX := Lib.hid (⟨hown5, (ba B3).grown hg5 (by simp; omega) (fun q hq => (own_lt HO3.out hq).1)⟩ : w5.ownsRow wc.heap.size 3 1 (.slice A5 (k + 1) c5) (k + 1) (rowI (accR N P true i) ++ [.int .i64 ((N : Int) + 1 - ((i : Int) + 1))]) ∧ Below wc.heap.size wc w5)
                 clear hown5 hg5 hat5))
            go_roundw
            case rel => exact ⟨i + 1, k + 1, c5, A5, by first | rfl | go_num, by go_num, by omega, by omega, Lib.hid (by rw [HS'.out, List.length_append, hk.out]; rfl), Lib.hid (by rw [HS'.out, rowI_snoc, show (((N - i : Nat)) : Int) = (N : Int) + 1 - ((i : Int) + 1) by omega]; exact HX.out.1), HX.out.2⟩
            case measure => simp [intOf]; omega
      · obtain rfl : i = N := by omega
        have g5 : decide ((i : Int) + 1 ≤ (i : Int)) = false := by simp; omega
        have hk' := hk.out
        go_wp2
        go_ret
        rw [hk']
        obtain ⟨A0, c0, e0, _, hrd⟩ := own_rd hO.out
        cases e0
        exact ⟨A, c, rfl, hrd.keep (fun b hb => own_lt hO.out hb) (fun _ _ => rfl), hB, own_cap hO.out⟩
theorem walkRef (Al : Option Addr) (cl : Nat) (L : List En) (n : Nat) (a : Int) (w : World) (hA : ListAt w Al L) (hO : Ord L.length (kdN L) (prN L) (enN L)) (hL : L.length ≤ 480) :
    Calls Tryd.prog 35 #[.slice Al L.length cl, .int .i64 (n : Int), .int .i64 a] w fun e w' => ∃ A c, e = .returned (.slice A (axL L.length (kdN L) (prN L) (enN L) n a).length c) ∧ RdP (NewB w w') w' 1 A (axL L.length (kdN L) (prN L) (enN L) n a).length (rowI (axL L.length (kdN L) (prN L) (enN L) n a)) ∧ Below w.heap.size w w' ∧ (axL L.length (kdN L) (prN L) (enN L) n a).length ≤ c ∧ c ≤ maxLen := by
  by_cases h : n = 0 ∨ L.length < n
  · have e0 : axL L.length (kdN L) (prN L) (enN L) n a = [] := by unfold axL; rw [if_pos h]
    rw [e0]
    refine (walkRef_out Al cl L.length n a w h).mono ?_
    rintro e w' ⟨rfl, hb⟩
    exact ⟨none, 0, rfl, ⟨by simp [rowI], fun h => absurd h (Nat.lt_irrefl _)⟩, hb, Nat.le_refl _, by unfold maxLen; omega⟩
  · have h1 : 1 ≤ n := by omega
    have h2 : n ≤ L.length := by omega
    have := walkRef_in Al cl L.length n a (axP (kdN L) (prN L) (enN L) n a) _ w rfl h1 h2 hL (Lib.hid fun w1 m hb m1 m2 => onRef Al cl L n m a w1 (hA.below hb) hO h1 h2 m1 m2 (by omega))
    rwa [accR_ax L.length (kdN L) (prN L) (enN L) n a h1 h2] at this
end Go.Proofs.YtcmlfkoeajpliaaDoor
