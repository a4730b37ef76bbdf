/- Package dec reads rows of digits. No condition beyond what the theorems state. -/
import Derived.Test.YtmggffhecopgiaaDoorSigns
namespace Go.Proofs
open Go.Shelf Go.RowKit Go.Proofs.Wide
def valL (l : List UInt8) : Int := l.foldl (fun v c => v * 10 + ((c.toNat : Int) - 48)) 0
theorem valL_snoc (l : List UInt8) (c : UInt8) : valL (l ++ [c]) = valL l * 10 + ((c.toNat : Int) - 48) := by unfold valL; rw [List.foldl_append]; rfl
def RdI (w0 : World) (l : List UInt8) (x y z c : Int) (i : Nat) (c20 : Value) (listed : Array Bool) (A : Act) (w : World) : Prop := ∃ (s10 s11 s12 s13 s14 s15 s16 s17 s18 s19 : Value), A = { tmps := #[.string (ba' l), undef, .pointer (some ⟨w0.heap.size, 0, none⟩), .pointer (some ⟨w0.heap.size + 1, 0, none⟩), .int .i64 (i : Int), .string (ba' l), .int .i64 (l.length : Int), .int .i64 (i : Int), .bool true, .int .i64 (i : Int), s10, s11, s12, s13, s14, s15, s16, s17, s18, s19, c20, undef], defers := [] } ∧
  (listed.getD 0 false = true → s10 = .agg #[.int .u64 (hi x), .int .u64 (lo x)]) ∧
  (listed.getD 1 false = true → s11 = .agg #[.int .u64 0, .int .u64 10]) ∧
  (listed.getD 2 false = true → s12 = .agg #[.int .u64 (hi y), .int .u64 (lo y)]) ∧
  (listed.getD 3 false = true → s13 = .string (ba' l)) ∧
  (listed.getD 4 false = true → s14 = .int .i64 (i : Int)) ∧
  (listed.getD 5 false = true → s15 = .int .u8 c) ∧
  (listed.getD 6 false = true → s16 = .int .u8 (c - 48)) ∧
  (listed.getD 7 false = true → s17 = .int .i64 (c - 48)) ∧
  (listed.getD 8 false = true → s18 = .agg #[.int .u64 (hi (c - 48)), .int .u64 (lo (c - 48))]) ∧
  (listed.getD 9 false = true → s19 = .agg #[.int .u64 (hi z), .int .u64 (lo z)]) ∧
  (listed.getD 10 false = true → Own w (w0.heap.size + 1) (.int .u64 (hi z)) (.int .u64 (lo z))) ∧
  Below w0.heap.size w0 w ∧
  (∃ u v, Own w (w0.heap.size) u v) ∧
  (listed.getD 10 false = false → Own w (w0.heap.size + 1) (.int .u64 (hi x)) (.int .u64 (lo x))) ∧
  (listed.getD 10 false = true → listed.getD 0 false = true)

set_option maxHeartbeats 4000000 in
theorem read_any (l : List UInt8) (hl : l.length ≤ 3000) (hd : l.all isD = true) (w0 : World) : Calls Tryd.prog 39 #[.string (ba' l)] w0 fun e w' => e = .returned (wv (valL l)) ∧ Below w0.heap.size w0 w' := by
  have hs := size_ba l
  have hs1 : ((ba' l).size : Int) = l.length := by rw [hs]
  go_enter Tryd.func39, Tryd.ntmps39
  go_wp2
  go_loopw [7] (fun s7 wx => ∃ k : Nat, s7 = .int .i64 k ∧ k ≤ l.length ∧ (∃ u v, Own wx w0.heap.size u v) ∧ Own wx (w0.heap.size + 1) (.int .u64 (hi (valL (l.take k)))) (.int .u64 (lo (valL (l.take k)))) ∧ Below w0.heap.size w0 wx) (fun s7 _ => l.length - (intOf s7).toNat)
  case atStart => exact ⟨0, rfl, Nat.zero_le _, ⟨_, _, (Own.new_at (by simp)).alloc _⟩, Own.new_at (by simp), ba (ba (Below.refl _ _))⟩
  case round =>
    obtain ⟨i, rfl, hi, ⟨g1, g2, O0⟩, O1, HB⟩ := hrel
    by_cases hlt : i < l.length
    · obtain ⟨c8, hc8⟩ : ∃ c8, l[i] = c8 := ⟨_, rfl⟩
      have hcd : isD c8 = true := List.all_eq_true.1 hd c8 (by rw [← hc8]; exact List.getElem_mem hlt)
      have hts : l.take (i + 1) = l.take i ++ [c8] := by rw [List.take_add_one, List.getElem?_eq_getElem hlt, hc8]; rfl
      have hv : valL (l.take (i + 1)) = valL (l.take i) * 10 + ((c8.toNat : Int) - 48) := by rw [hts, valL_snoc]
      have hgi : ((ba' l)[i]'(by rw [hs]; exact hlt)).toNat = c8.toNat := by rw [← hc8]; rfl
      have hc1 : 48 ≤ (c8.toNat : Int) := by unfold isD at hcd; simp at hcd; omega
      have hc2 : (c8.toNat : Int) ≤ 57 := by unfold isD at hcd; simp at hcd; omega
      have HV := Lib.hid hv
      clear hv hts hcd hc8
      obtain ⟨x, hx⟩ : ∃ x, valL (l.take i) = x := ⟨_, rfl⟩
      rw [hx] at O1 HV
      clear hx
      obtain ⟨c, hc⟩ : ∃ c, (c8.toNat : Int) = c := ⟨_, rfl⟩
      rw [hc] at HV hc1 hc2
      have H1 : Hid (Gives 33 #[.int .i64 10] (.agg #[.int .u64 0, .int .u64 10])) := gives_unfold fun w => wideOf_any 10 (by decide) (by decide) w
      have H2 : Hid (Gives 46 #[wv x, wv 10] (wv (x * 10))) := gives_unfold fun w => times_any x 10 w
      rw [show wv 10 = .agg #[.int .u64 0, .int .u64 10] from rfl, wv_agg, wv_agg] at H2
      have H3 : Hid (Gives 33 #[.int .i64 (c - 48)] (wv (c - 48))) := gives_unfold fun w => wideOf_any (c - 48) (by omega) (by omega) w
      have H4 : Hid (Gives 44 #[wv (x * 10), wv (c - 48)] (wv (x * 10 + (c - 48)))) := gives_unfold fun w => plus_any (x * 10) (c - 48) w
      rw [wv_agg] at H3
      rw [wv_agg, wv_agg, wv_agg] at H4
      obtain ⟨y, hy⟩ : ∃ y, x * 10 = y := ⟨_, rfl⟩
      rw [hy] at H2 H4 HV
      obtain ⟨z, hz⟩ : ∃ z, y + (c - 48) = z := ⟨_, rfl⟩
      rw [hz] at H4 HV
      clear hy hz
      have hlt' : (i : Int) < (l.length : Int) := by omega
      have hi0 : (0 : Int) ≤ (i : Int) := by omega
      have wc : IntKind.u8.wrap (c - 48) = c - 48 := by rw [IntKind.wrap_u8]; omega
      have wi : IntKind.i64.wrap (c - 48) = c - 48 := by rw [IntKind.wrap_i64]; omega
      go_upto_region 5 with fail
      refine wp_region_inv (by kernel_rfl) (by kernel_rfl) (RdI w0 l x y z c i u20) ?_ ?_ ?_
      · exact ⟨_, _, _, _, _, _, _, _, _, _, rfl, fun h => absurd h l0, fun h => absurd h l0, fun h => absurd h l0, fun h => absurd h l0, fun h => absurd h l0, fun h => absurd h l0, fun h => absurd h l0, fun h => absurd h l0, fun h => absurd h l0, fun h => absurd h l0, fun h => absurd h l0, bdr HB, ⟨_, _, O0.drew⟩, fun _ => O1.drew, fun h => absurd h l0⟩
      · intro i o listed A w hi ho hd hn hI
        obtain ⟨s10, s11, s12, s13, s14, s15, s16, s17, s18, s19, rfl, F0, F1, F2, F3, F4, F5, F6, F7, F8, F9, F10, F11, F12, F13, F14⟩ := hI
        have hi' : i < 11 := hi
        clear hi
        rcases (by omega : i = 0 ∨ i = 1 ∨ i = 2 ∨ i = 3 ∨ i = 4 ∨ i = 5 ∨ i = 6 ∨ i = 7 ∨ i = 8 ∨ i = 9 ∨ i = 10) with rfl | rfl | rfl | rfl | rfl | rfl | rfl | rfl | rfl | rfl | rfl
        · simp only [List.getElem?_toArray, List.getElem?_cons_zero, Option.some.injEq] at ho
          subst ho
          have O'1 := F13 (ln hn F14); have O''1 := O'1; obtain ⟨_, _, _, _⟩ := O''1
          refine wpOp_step rfl (fun K hK => ?_)
          go_simp
          refine hK _ _ ?_
          exact ⟨_, _, _, _, _, _, _, _, _, _, rfl, fun _ => rfl, fun h => F1 (ls (by decide) h), fun h => F2 (ls (by decide) h), fun h => F3 (ls (by decide) h), fun h => F4 (ls (by decide) h), fun h => F5 (ls (by decide) h), fun h => F6 (ls (by decide) h), fun h => F7 (ls (by decide) h), fun h => F8 (ls (by decide) h), fun h => F9 (ls (by decide) h), fun h => F10 (ls (by decide) h), F11, F12, fun h => F13 (lsf (by decide) h), fun _ => lself hn⟩
        · simp only [List.getElem?_toArray, List.getElem?_cons_zero, List.getElem?_cons_succ, Option.some.injEq] at ho
          subst ho
          refine wpOp_step rfl (fun K hK => ?_)
          go_simp
          go_at_call 33; refine (H1.out.call _).mono ?_; rintro e w' ⟨rfl, hb⟩
          refine hK _ _ ?_
          exact ⟨_, _, _, _, _, _, _, _, _, _, rfl, fun h => F0 (ls (by decide) h), fun _ => rfl, fun h => F2 (ls (by decide) h), fun h => F3 (ls (by decide) h), fun h => F4 (ls (by decide) h), fun h => F5 (ls (by decide) h), fun h => F6 (ls (by decide) h), fun h => F7 (ls (by decide) h), fun h => F8 (ls (by decide) h), fun h => F9 (ls (by decide) h), fun h => ((F10 (ls (by decide) h))).call hb, bt F11 hb, (let ⟨u, v, c⟩ := F12; ⟨u, v, (c).call hb⟩), fun h => ((F13 (lsf (by decide) h))).call hb, fun h => la (F14 (ls (by decide) h))⟩
        · simp only [List.getElem?_toArray, List.getElem?_cons_zero, List.getElem?_cons_succ, Option.some.injEq] at ho
          subst ho
          obtain rfl := F0 (hd ⟨0, .data⟩ (by simp) rfl)
          obtain rfl := F1 (hd ⟨1, .data⟩ (by simp) rfl)
          refine wpOp_step rfl (fun K hK => ?_)
          go_simp
          go_at_call 46; refine (H2.out.call _).mono ?_; rintro e w' ⟨rfl, hb⟩
          refine hK _ _ ?_
          exact ⟨_, _, _, _, _, _, _, _, _, _, rfl, fun h => F0 (ls (by decide) h), fun h => F1 (ls (by decide) h), fun _ => rfl, fun h => F3 (ls (by decide) h), fun h => F4 (ls (by decide) h), fun h => F5 (ls (by decide) h), fun h => F6 (ls (by decide) h), fun h => F7 (ls (by decide) h), fun h => F8 (ls (by decide) h), fun h => F9 (ls (by decide) h), fun h => ((F10 (ls (by decide) h))).call hb, bt F11 hb, (let ⟨u, v, c⟩ := F12; ⟨u, v, (c).call hb⟩), fun h => ((F13 (lsf (by decide) h))).call hb, fun h => la (F14 (ls (by decide) h))⟩
        · simp only [List.getElem?_toArray, List.getElem?_cons_zero, List.getElem?_cons_succ, Option.some.injEq] at ho
          subst ho
          refine wpOp_step rfl (fun K hK => ?_)
          go_simp
          refine hK _ _ ?_
          exact ⟨_, _, _, _, _, _, _, _, _, _, rfl, fun h => F0 (ls (by decide) h), fun h => F1 (ls (by decide) h), fun h => F2 (ls (by decide) h), fun _ => rfl, fun h => F4 (ls (by decide) h), fun h => F5 (ls (by decide) h), fun h => F6 (ls (by decide) h), fun h => F7 (ls (by decide) h), fun h => F8 (ls (by decide) h), fun h => F9 (ls (by decide) h), fun h => F10 (ls (by decide) h), F11, F12, fun h => F13 (lsf (by decide) h), fun h => la (F14 (ls (by decide) h))⟩
        · simp only [List.getElem?_toArray, List.getElem?_cons_zero, List.getElem?_cons_succ, Option.some.injEq] at ho
          subst ho
          refine wpOp_step rfl (fun K hK => ?_)
          go_simp
          refine hK _ _ ?_
          exact ⟨_, _, _, _, _, _, _, _, _, _, rfl, fun h => F0 (ls (by decide) h), fun h => F1 (ls (by decide) h), fun h => F2 (ls (by decide) h), fun h => F3 (ls (by decide) h), fun _ => rfl, fun h => F5 (ls (by decide) h), fun h => F6 (ls (by decide) h), fun h => F7 (ls (by decide) h), fun h => F8 (ls (by decide) h), fun h => F9 (ls (by decide) h), fun h => F10 (ls (by decide) h), F11, F12, fun h => F13 (lsf (by decide) h), fun h => la (F14 (ls (by decide) h))⟩
        · simp only [List.getElem?_toArray, List.getElem?_cons_zero, List.getElem?_cons_succ, Option.some.injEq] at ho
          subst ho
          obtain rfl := F3 (hd ⟨3, .data⟩ (by simp) rfl)
          obtain rfl := F4 (hd ⟨4, .data⟩ (by simp) rfl)
          refine wpOp_step rfl (fun K hK => ?_)
          go_simp
          refine hK _ _ ?_
          exact ⟨_, _, _, _, _, _, _, _, _, _, rfl, fun h => F0 (ls (by decide) h), fun h => F1 (ls (by decide) h), fun h => F2 (ls (by decide) h), fun h => F3 (ls (by decide) h), fun h => F4 (ls (by decide) h), fun _ => rfl, fun h => F6 (ls (by decide) h), fun h => F7 (ls (by decide) h), fun h => F8 (ls (by decide) h), fun h => F9 (ls (by decide) h), fun h => F10 (ls (by decide) h), F11, F12, fun h => F13 (lsf (by decide) h), fun h => la (F14 (ls (by decide) h))⟩
        · simp only [List.getElem?_toArray, List.getElem?_cons_zero, List.getElem?_cons_succ, Option.some.injEq] at ho
          subst ho
          obtain rfl := F5 (hd ⟨5, .data⟩ (by simp) rfl)
          refine wpOp_step rfl (fun K hK => ?_)
          go_simp
          refine hK _ _ ?_
          exact ⟨_, _, _, _, _, _, _, _, _, _, rfl, fun h => F0 (ls (by decide) h), fun h => F1 (ls (by decide) h), fun h => F2 (ls (by decide) h), fun h => F3 (ls (by decide) h), fun h => F4 (ls (by decide) h), fun h => F5 (ls (by decide) h), fun _ => rfl, fun h => F7 (ls (by decide) h), fun h => F8 (ls (by decide) h), fun h => F9 (ls (by decide) h), fun h => F10 (ls (by decide) h), F11, F12, fun h => F13 (lsf (by decide) h), fun h => la (F14 (ls (by decide) h))⟩
        · simp only [List.getElem?_toArray, List.getElem?_cons_zero, List.getElem?_cons_succ, Option.some.injEq] at ho
          subst ho
          obtain rfl := F6 (hd ⟨6, .data⟩ (by simp) rfl)
          refine wpOp_step rfl (fun K hK => ?_)
          go_simp
          refine hK _ _ ?_
          exact ⟨_, _, _, _, _, _, _, _, _, _, rfl, fun h => F0 (ls (by decide) h), fun h => F1 (ls (by decide) h), fun h => F2 (ls (by decide) h), fun h => F3 (ls (by decide) h), fun h => F4 (ls (by decide) h), fun h => F5 (ls (by decide) h), fun h => F6 (ls (by decide) h), fun _ => rfl, fun h => F8 (ls (by decide) h), fun h => F9 (ls (by decide) h), fun h => F10 (ls (by decide) h), F11, F12, fun h => F13 (lsf (by decide) h), fun h => la (F14 (ls (by decide) h))⟩
        · simp only [List.getElem?_toArray, List.getElem?_cons_zero, List.getElem?_cons_succ, Option.some.injEq] at ho
          subst ho
          obtain rfl := F7 (hd ⟨7, .data⟩ (by simp) rfl)
          refine wpOp_step rfl (fun K hK => ?_)
          go_simp
          go_at_call 33; refine (H3.out.call _).mono ?_; rintro e w' ⟨rfl, hb⟩
          refine hK _ _ ?_
          exact ⟨_, _, _, _, _, _, _, _, _, _, rfl, fun h => F0 (ls (by decide) h), fun h => F1 (ls (by decide) h), fun h => F2 (ls (by decide) h), fun h => F3 (ls (by decide) h), fun h => F4 (ls (by decide) h), fun h => F5 (ls (by decide) h), fun h => F6 (ls (by decide) h), fun h => F7 (ls (by decide) h), fun _ => rfl, fun h => F9 (ls (by decide) h), fun h => ((F10 (ls (by decide) h))).call hb, bt F11 hb, (let ⟨u, v, c⟩ := F12; ⟨u, v, (c).call hb⟩), fun h => ((F13 (lsf (by decide) h))).call hb, fun h => la (F14 (ls (by decide) h))⟩
        · simp only [List.getElem?_toArray, List.getElem?_cons_zero, List.getElem?_cons_succ, Option.some.injEq] at ho
          subst ho
          obtain rfl := F2 (hd ⟨2, .data⟩ (by simp) rfl)
          obtain rfl := F8 (hd ⟨8, .data⟩ (by simp) rfl)
          refine wpOp_step rfl (fun K hK => ?_)
          go_simp
          go_at_call 44; refine (H4.out.call _).mono ?_; rintro e w' ⟨rfl, hb⟩
          refine hK _ _ ?_
          exact ⟨_, _, _, _, _, _, _, _, _, _, rfl, fun h => F0 (ls (by decide) h), fun h => F1 (ls (by decide) h), fun h => F2 (ls (by decide) h), fun h => F3 (ls (by decide) h), fun h => F4 (ls (by decide) h), fun h => F5 (ls (by decide) h), fun h => F6 (ls (by decide) h), fun h => F7 (ls (by decide) h), fun h => F8 (ls (by decide) h), fun _ => rfl, fun h => ((F10 (ls (by decide) h))).call hb, bt F11 hb, (let ⟨u, v, c⟩ := F12; ⟨u, v, (c).call hb⟩), fun h => ((F13 (lsf (by decide) h))).call hb, fun h => la (F14 (ls (by decide) h))⟩
        · simp only [List.getElem?_toArray, List.getElem?_cons_zero, List.getElem?_cons_succ, Option.some.injEq] at ho
          subst ho
          obtain rfl := F9 (hd ⟨9, .data⟩ (by simp) rfl)
          have O'1 := F13 (lf hn); have O''1 := O'1; obtain ⟨_, _, _, _⟩ := O''1
          refine wpOp_step rfl (fun K hK => ?_)
          go_simp
          refine hK _ _ ?_
          exact ⟨_, _, _, _, _, _, _, _, _, _, rfl, fun h => F0 (ls (by decide) h), fun h => F1 (ls (by decide) h), fun h => F2 (ls (by decide) h), fun h => F3 (ls (by decide) h), fun h => F4 (ls (by decide) h), fun h => F5 (ls (by decide) h), fun h => F6 (ls (by decide) h), fun h => F7 (ls (by decide) h), fun h => F8 (ls (by decide) h), fun h => F9 (ls (by decide) h), fun _ => O'1.store _ _, bs (bs F11 (by first | (simp; done) | (simp; omega))) (by first | (simp; done) | (simp; omega)), (let ⟨u, v, c⟩ := F12; ⟨u, v, (c.set_ (by first | (simp; done) | (simp; omega))).set_ (by first | (simp; done) | (simp; omega))⟩), fun h => _root_.Go.lx hn h, fun _ => la (hd ⟨0, .phase⟩ (by simp) rfl)⟩
      · intro listed A w hall hI
        obtain ⟨s10, s11, s12, s13, s14, s15, s16, s17, s18, s19, rfl, F0, F1, F2, F3, F4, F5, F6, F7, F8, F9, F10, F11, F12, F13, F14⟩ := hI
        obtain rfl := F0 (hall 0 (by decide))
        obtain rfl := F1 (hall 1 (by decide))
        obtain rfl := F2 (hall 2 (by decide))
        obtain rfl := F3 (hall 3 (by decide))
        obtain rfl := F4 (hall 4 (by decide))
        obtain rfl := F5 (hall 5 (by decide))
        obtain rfl := F6 (hall 6 (by decide))
        obtain rfl := F7 (hall 7 (by decide))
        obtain rfl := F8 (hall 8 (by decide))
        obtain rfl := F9 (hall 9 (by decide))
        have P10 := F10 (hall 10 (by decide))
        have HB := F11
        have B0 := F12
        clear hall F10 F11 F12 F13 F14 F0 F1 F2 F3 F4 F5 F6 F7 F8 F9
        try dsimp only

        obtain ⟨u5, v5, B0⟩ := B0
        go_wp2
        go_roundw
        case rel => exact ⟨i + 1, by go_num, by omega, ⟨_, _, B0⟩, by rw [HV.out]; exact P10, HB⟩
        case measure => simp [intOf]; omega
    · obtain rfl : i = l.length := by omega
      rw [List.take_length] at O1
      obtain ⟨_, _, _, _⟩ := O1
      obtain ⟨_, _, _, _⟩ := O0
      go_wp2
      exact bodyPost_ret (v := wv (valL l)) (by simp [results, Tryd.results39, go_sem, wv, *]) rfl ⟨rfl, by repeat (first | exact Below.refl _ _ | apply ba | apply bd | apply bdr | (refine bs ?_ (by first | (simp; done) | (simp; omega))) | (refine bt ?_ (by assumption)))⟩
end Go.Proofs
