/- Package dec tells right numbers, subtracts, compares, divides to whole numbers. No condition beyond what the theorems state. -/
import Derived.Test.YtemgabmafmehnaaGreatDoorDeFit
namespace Go.Proofs
open Go.Shelf Go.RowKit Go.Proofs.Wide

def nv (n k : Int) : Value := .agg #[.int .i64 n, .int .i64 k]
def rightB (p : Int × Int) : Bool := decide (-999999999999999999 ≤ p.1 ∧ p.1 ≤ 999999999999999999 ∧ 0 ≤ p.2 ∧ p.2 ≤ 9 ∧ (p.2 = 0 ∨ p.1 % 10 ≠ 0))
/-- A row of numbers. -/
def Nums (w : World) (g : Nat) (L : List (Int × Int)) : Prop := ∀ i p, L[i]? = some p → w.cell? ⟨g, 2 * i, none⟩ = some (.int .i64 p.1) ∧ w.cell? ⟨g, 2 * i + 1, none⟩ = some (.int .i64 p.2)
def InI (n : Int) : Prop := -9223372036854775808 ≤ n ∧ n ≤ 9223372036854775807
theorem tm10 (n : Int) : (n.tmod 10 = 0 ↔ n % 10 = 0) := by
  have := tdiv10 n
  constructor
  · intro h; by_cases h' : n % 10 = 0
    · exact h'
    · exact absurd h (this.2 h').1
  · exact fun h => (this.1 h).2
theorem ret_bool {a b : Bool} (h : a = b) : Ending.returned (.bool a) = .returned (.bool b) := by rw [h]
set_option maxHeartbeats 4000000 in
theorem right_any (g : Nat) (cap : Nat) (L : List (Int × Int)) (w0 : World) (hL : ∀ p ∈ L, InI p.1 ∧ InI p.2) (hlen : L.length ≤ 1000000) (hN : Nums w0 g L) (hg : g < w0.heap.size) :
    Calls Tryz.prog 52 #[.slice (some ⟨g, 0, none⟩) L.length cap] w0 fun e w' => e = .returned (.bool (L.all rightB)) ∧ Below w0.heap.size w0 w' := by
  go_enter Tryz.func52, Tryz.ntmps52
  go_wp2
  go_loopw [7] (fun i wx => ∃ k : Nat, i = .int .i64 k ∧ k ≤ L.length ∧ (L.take k).all rightB = true ∧ Below w0.heap.size w0 wx) (fun i _ => L.length - (intOf i).toNat)
  case atStart => exact ⟨0, rfl, Nat.zero_le _, by simp, Below.refl _ _⟩
  case round =>
    obtain ⟨k, rfl, hk, ha, hB⟩ := hrel
    by_cases hlt : k < L.length
    · obtain ⟨p, hp⟩ : ∃ p, L[k]? = some p := ⟨_, List.getElem?_eq_getElem hlt⟩
      have hpm : p ∈ L := List.mem_of_getElem? hp
      obtain ⟨c1, c2⟩ := hN k p hp
      have d1 := (hB.cell (p := ⟨g, 2 * k, none⟩) hg).trans c1
      have d2 := (hB.cell (p := ⟨g, 2 * k + 1, none⟩) hg).trans c2
      obtain ⟨⟨i1, i2⟩, ⟨i3, i4⟩⟩ := hL p hpm
      obtain ⟨n, q⟩ := p
      simp only at i1 i2 i3 i4 d1 d2
      have hts : (L.take (k + 1)).all rightB = ((L.take k).all rightB && rightB (n, q)) := by
        rw [List.take_add_one, hp]; simp
      have hall : rightB (n, q) = false → L.all rightB = false := fun h => by
        cases h' : L.all rightB with
        | false => rfl
        | true => rw [List.all_eq_true.1 h' (n, q) hpm] at h; cases h
      have HTS := Lib.hid hts; have HALL := Lib.hid hall; have HA := Lib.hid ha; have HP := Lib.hid hp; have HN := Lib.hid hN; have HL := Lib.hid hL; have HPM := Lib.hid hpm
      clear hts hall ha hp hN hL c1 c2 hpm
      have e2k : k * 2 = 2 * k := by omega
      by_cases h1 : n < -999999999999999999
      · have hr : rightB (n, q) = false := by unfold rightB; simp; omega
        go_wp2
        go_ret
        exact ⟨ret_bool (HALL.out hr).symm, ba hB⟩
      by_cases h2 : 999999999999999999 < n
      · have hr : rightB (n, q) = false := by unfold rightB; simp; omega
        go_wp2
        go_ret
        exact ⟨ret_bool (HALL.out hr).symm, ba hB⟩
      by_cases h3 : q < 0
      · have hr : rightB (n, q) = false := by unfold rightB; simp; omega
        go_wp2
        go_ret
        exact ⟨ret_bool (HALL.out hr).symm, ba hB⟩
      by_cases h4 : 9 < q
      · have hr : rightB (n, q) = false := by unfold rightB; simp; omega
        go_wp2
        go_ret
        exact ⟨ret_bool (HALL.out hr).symm, ba hB⟩
      by_cases h5 : 0 < q
      · have ht := tm10 n
        have hw : IntKind.i64.wrap (n.tmod 10) = n.tmod 10 := by
          have := (tdiv10 n); rw [IntKind.wrap_i64]
          by_cases h : n % 10 = 0
          · rw [(this.1 h).2]; omega
          · have := this.2 h; omega
        obtain ⟨m, hm⟩ : ∃ m, n.tmod 10 = m := ⟨_, rfl⟩
        rw [hm] at ht hw
        have HM := Lib.hid hm
        have hw' : IntKind.i64.wrap (n.tmod 10) = m := by rw [hm]; exact hw
        clear hm
        by_cases h6 : m = 0
        · have hr : rightB (n, q) = false := by have := ht.1 h6; unfold rightB; simp; omega
          have HR := Lib.hid hr
          have hm := HM.out
          subst h6
          clear ht hr
          go_wp2
          go_ret
          exact ⟨ret_bool (HALL.out HR.out).symm, ba hB⟩
        · have hr : rightB (n, q) = true := by have : ¬ n % 10 = 0 := fun h => h6 (ht.2 h); unfold rightB; simp; omega
          have HR := Lib.hid hr
          have hm := HM.out
          clear ht hr
          go_wp2
          go_roundw
          case rel => exact ⟨k + 1, by go_num, by omega, by rw [HTS.out, HA.out, HR.out]; rfl, ba hB⟩
          case measure => simp [intOf]; omega
      · have hr : rightB (n, q) = true := by unfold rightB; simp; omega
        have HR := Lib.hid hr
        clear hr
        go_wp2
        go_roundw
        case rel => exact ⟨k + 1, by go_num, by omega, by rw [HTS.out, HA.out, HR.out]; rfl, ba hB⟩
        case measure => simp [intOf]; omega
    · obtain rfl : k = L.length := by omega
      have HA := Lib.hid ha
      clear ha
      go_wp2
      go_ret
      exact ⟨ret_bool (by have := HA.out; rw [List.take_length] at this; exact this.symm), hB⟩
end Go.Proofs
namespace Go.Proofs
open Go.Shelf Go.RowKit Go.Proofs.Wide
def LvI (w0 : World) (n k m l s x y p q : Int) (listed : Array Bool) (A : Act) (w : World) : Prop := ∃ (s6 s13 s14 s15 s16 s17 s18 s19 s20 s21 s22 s23 s24 s25 s26 s27 s28 s29 s30 s31 : Value), A = { tmps := #[.agg #[.int .i64 (n), .int .i64 (k)], .agg #[.int .i64 (m), .int .i64 (l)], .pointer (some ⟨w0.heap.size, 0, none⟩), .pointer (some ⟨w0.heap.size + 1, 0, none⟩), .pointer (some ⟨w0.heap.size + 1 + 1, 0, none⟩), .pointer (some ⟨w0.heap.size + 1 + 1 + 1, 0, none⟩), s6, .int .i64 (s), .pointer (some ⟨w0.heap.size, 1, none⟩), .int .i64 (k), .pointer (some ⟨w0.heap.size + 1, 1, none⟩), .int .i64 (l), .int .i64 (s), s13, s14, s15, s16, s17, s18, s19, s20, s21, s22, s23, s24, s25, s26, s27, s28, s29, s30, s31], defers := [] } ∧
  (listed.getD 0 false = true → s13 = .pointer (some ⟨w0.heap.size, 0, none⟩)) ∧
  (listed.getD 1 false = true → s14 = .int .i64 (n)) ∧
  (listed.getD 2 false = true → s15 = .agg #[.int .u64 (hi n), .int .u64 (lo n)]) ∧
  (listed.getD 3 false = true → s16 = .int .i64 (s)) ∧
  (listed.getD 4 false = true → s17 = .pointer (some ⟨w0.heap.size, 1, none⟩)) ∧
  (listed.getD 5 false = true → s18 = .int .i64 (k)) ∧
  (listed.getD 6 false = true → s19 = .int .i64 (s - k)) ∧
  (listed.getD 7 false = true → s20 = .agg #[.int .u64 (hi p), .int .u64 (lo p)]) ∧
  (listed.getD 8 false = true → s21 = .agg #[.int .u64 (hi x), .int .u64 (lo x)]) ∧
  (listed.getD 9 false = true → s22 = .pointer (some ⟨w0.heap.size + 1, 0, none⟩)) ∧
  (listed.getD 10 false = true → s23 = .int .i64 (m)) ∧
  (listed.getD 11 false = true → s24 = .agg #[.int .u64 (hi m), .int .u64 (lo m)]) ∧
  (listed.getD 12 false = true → s25 = .int .i64 (s)) ∧
  (listed.getD 13 false = true → s26 = .pointer (some ⟨w0.heap.size + 1, 1, none⟩)) ∧
  (listed.getD 14 false = true → s27 = .int .i64 (l)) ∧
  (listed.getD 15 false = true → s28 = .int .i64 (s - l)) ∧
  (listed.getD 16 false = true → s29 = .agg #[.int .u64 (hi q), .int .u64 (lo q)]) ∧
  (listed.getD 17 false = true → s30 = .agg #[.int .u64 (hi y), .int .u64 (lo y)]) ∧
  (listed.getD 18 false = true → s31 = .int .i64 (s)) ∧
  (listed.getD 19 false = true → Own w (w0.heap.size + 1 + 1) (.int .u64 (hi x)) (.int .u64 (lo x))) ∧
  (listed.getD 20 false = true → Own w (w0.heap.size + 1 + 1 + 1) (.int .u64 (hi y)) (.int .u64 (lo y))) ∧
  (listed.getD 21 false = true → s6 = .int .i64 (s)) ∧
  Below w0.heap.size w0 w ∧
  Own w (w0.heap.size) (.int .i64 n) (.int .i64 k) ∧
  Own w (w0.heap.size + 1) (.int .i64 m) (.int .i64 l) ∧
  (∃ u v, Own w (w0.heap.size + 1 + 1) u v) ∧
  (∃ u v, Own w (w0.heap.size + 1 + 1 + 1) u v)

set_option maxHeartbeats 4000000 in
theorem level_core (n k m l s x y p q : Int) (w0 : World) (hs : max k l = s) (hk : 0 ≤ s - k ∧ s - k ≤ 100) (hl : 0 ≤ s - l ∧ s - l ≤ 100)
    (H1 : Hid (Gives 81 #[.int .i64 n] (.agg #[.int .u64 (hi n), .int .u64 (lo n)])))
    (H2 : Hid (Gives 83 #[.int .i64 (s - k)] (.agg #[.int .u64 (hi p), .int .u64 (lo p)])))
    (H3 : Hid (Gives 82 #[.agg #[.int .u64 (hi n), .int .u64 (lo n)], .agg #[.int .u64 (hi p), .int .u64 (lo p)]] (.agg #[.int .u64 (hi x), .int .u64 (lo x)])))
    (H4 : Hid (Gives 81 #[.int .i64 m] (.agg #[.int .u64 (hi m), .int .u64 (lo m)])))
    (H5 : Hid (Gives 83 #[.int .i64 (s - l)] (.agg #[.int .u64 (hi q), .int .u64 (lo q)])))
    (H6 : Hid (Gives 82 #[.agg #[.int .u64 (hi m), .int .u64 (lo m)], .agg #[.int .u64 (hi q), .int .u64 (lo q)]] (.agg #[.int .u64 (hi y), .int .u64 (lo y)]))) :
    Calls Tryz.prog 53 #[nv n k, nv m l] w0 fun e w' => e = .returned (.tuple #[wv x, wv y, .int .i64 s]) ∧ Below w0.heap.size w0 w' := by
  unfold nv wv
  obtain ⟨k1, k2⟩ := hk
  obtain ⟨l1, l2⟩ := hl
  have w1 : IntKind.i64.wrap (s - k) = s - k := by rw [IntKind.wrap_i64]; omega
  have w2 : IntKind.i64.wrap (s - l) = s - l := by rw [IntKind.wrap_i64]; omega
  go_enter Tryz.func53, Tryz.ntmps53
  go_upto_region 2 with fail
  refine wp_region_inv (by kernel_rfl) (by kernel_rfl) (LvI w0 n k m l s x y p q) ?_ ?_ ?_
  · exact ⟨_, _, _, _, _, _, _, _, _, _, _, _, _, _, _, _, _, _, _, _, rfl, fun h => absurd h l0, fun h => absurd h l0, fun h => absurd h l0, fun h => absurd h l0, fun h => absurd h l0, fun h => absurd h l0, fun h => absurd h l0, fun h => absurd h l0, fun h => absurd h l0, fun h => absurd h l0, fun h => absurd h l0, fun h => absurd h l0, fun h => absurd h l0, fun h => absurd h l0, fun h => absurd h l0, fun h => absurd h l0, fun h => absurd h l0, fun h => absurd h l0, fun h => absurd h l0, fun h => absurd h l0, fun h => absurd h l0, fun h => absurd h l0, bdr (ba (ba (ba (ba (Below.refl _ _))))), (((Own.new_at (by simp)).alloc _).alloc _).alloc _, ((Own.new_at (by simp)).alloc _).alloc _, ⟨_, _, (Own.new_at (by simp)).alloc _⟩, ⟨_, _, Own.new_at (by simp)⟩⟩
  · intro i o listed A w hi ho hd hn hI
    obtain ⟨s6, s13, s14, s15, s16, s17, s18, s19, s20, s21, s22, s23, s24, s25, s26, s27, s28, s29, s30, s31, rfl, F0, F1, F2, F3, F4, F5, F6, F7, F8, F9, F10, F11, F12, F13, F14, F15, F16, F17, F18, F19, F20, F21, F22, F23, F24, F25, F26⟩ := hI
    have hi' : i < 22 := hi
    clear hi
    rcases (by omega : i = 0 ∨ i = 1 ∨ i = 2 ∨ i = 3 ∨ i = 4 ∨ i = 5 ∨ i = 6 ∨ i = 7 ∨ i = 8 ∨ i = 9 ∨ i = 10 ∨ i = 11 ∨ i = 12 ∨ i = 13 ∨ i = 14 ∨ i = 15 ∨ i = 16 ∨ i = 17 ∨ i = 18 ∨ i = 19 ∨ i = 20 ∨ i = 21) with rfl | rfl | rfl | rfl | rfl | rfl | rfl | rfl | rfl | rfl | rfl | rfl | rfl | rfl | rfl | rfl | rfl | rfl | rfl | rfl | rfl | rfl
    · simp only [List.getElem?_toArray, List.getElem?_cons_zero, Option.some.injEq] at ho
      subst ho
      refine wpOp_step rfl (fun K hK => ?_)
      go_simp
      refine hK _ _ ?_
      exact ⟨_, _, _, _, _, _, _, _, _, _, _, _, _, _, _, _, _, _, _, _, rfl, fun _ => rfl, fun h => F1 (ls (by decide) h), fun h => F2 (ls (by decide) h), fun h => F3 (ls (by decide) h), fun h => F4 (ls (by decide) h), fun h => F5 (ls (by decide) h), fun h => F6 (ls (by decide) h), fun h => F7 (ls (by decide) h), fun h => F8 (ls (by decide) h), fun h => F9 (ls (by decide) h), fun h => F10 (ls (by decide) h), fun h => F11 (ls (by decide) h), fun h => F12 (ls (by decide) h), fun h => F13 (ls (by decide) h), fun h => F14 (ls (by decide) h), fun h => F15 (ls (by decide) h), fun h => F16 (ls (by decide) h), fun h => F17 (ls (by decide) h), fun h => F18 (ls (by decide) h), fun h => F19 (ls (by decide) h), fun h => F20 (ls (by decide) h), fun h => F21 (ls (by decide) h), F22, F23, F24, F25, F26⟩
    · simp only [List.getElem?_toArray, List.getElem?_cons_zero, List.getElem?_cons_succ, Option.some.injEq] at ho
      subst ho
      obtain rfl := F0 (hd ⟨0, .data⟩ (by simp) rfl)
      have O'0 := F23; obtain ⟨_, _, _, _⟩ := O'0
      refine wpOp_step rfl (fun K hK => ?_)
      go_simp
      refine hK _ _ ?_
      exact ⟨_, _, _, _, _, _, _, _, _, _, _, _, _, _, _, _, _, _, _, _, rfl, fun h => F0 (ls (by decide) h), fun _ => rfl, fun h => F2 (ls (by decide) h), fun h => F3 (ls (by decide) h), fun h => F4 (ls (by decide) h), fun h => F5 (ls (by decide) h), fun h => F6 (ls (by decide) h), fun h => F7 (ls (by decide) h), fun h => F8 (ls (by decide) h), fun h => F9 (ls (by decide) h), fun h => F10 (ls (by decide) h), fun h => F11 (ls (by decide) h), fun h => F12 (ls (by decide) h), fun h => F13 (ls (by decide) h), fun h => F14 (ls (by decide) h), fun h => F15 (ls (by decide) h), fun h => F16 (ls (by decide) h), fun h => F17 (ls (by decide) h), fun h => F18 (ls (by decide) h), fun h => F19 (ls (by decide) h), fun h => F20 (ls (by decide) h), fun h => F21 (ls (by decide) h), F22, F23, F24, F25, F26⟩
    · simp only [List.getElem?_toArray, List.getElem?_cons_zero, List.getElem?_cons_succ, Option.some.injEq] at ho
      subst ho
      obtain rfl := F1 (hd ⟨1, .data⟩ (by simp) rfl)
      refine wpOp_step rfl (fun K hK => ?_)
      go_simp
      go_at_call 81; refine (H1.out.call _).mono ?_; rintro e w' ⟨rfl, hb⟩
      refine hK _ _ ?_
      exact ⟨_, _, _, _, _, _, _, _, _, _, _, _, _, _, _, _, _, _, _, _, rfl, fun h => F0 (ls (by decide) h), fun h => F1 (ls (by decide) h), fun _ => rfl, fun h => F3 (ls (by decide) h), fun h => F4 (ls (by decide) h), fun h => F5 (ls (by decide) h), fun h => F6 (ls (by decide) h), fun h => F7 (ls (by decide) h), fun h => F8 (ls (by decide) h), fun h => F9 (ls (by decide) h), fun h => F10 (ls (by decide) h), fun h => F11 (ls (by decide) h), fun h => F12 (ls (by decide) h), fun h => F13 (ls (by decide) h), fun h => F14 (ls (by decide) h), fun h => F15 (ls (by decide) h), fun h => F16 (ls (by decide) h), fun h => F17 (ls (by decide) h), fun h => F18 (ls (by decide) h), fun h => ((F19 (ls (by decide) h))).call hb, fun h => ((F20 (ls (by decide) h))).call hb, fun h => F21 (ls (by decide) h), bt F22 hb, (F23).call hb, (F24).call hb, (let ⟨u, v, c⟩ := F25; ⟨u, v, (c).call hb⟩), (let ⟨u, v, c⟩ := F26; ⟨u, v, (c).call hb⟩)⟩
    · simp only [List.getElem?_toArray, List.getElem?_cons_zero, List.getElem?_cons_succ, Option.some.injEq] at ho
      subst ho
      refine wpOp_step rfl (fun K hK => ?_)
      go_simp
      refine hK _ _ ?_
      exact ⟨_, _, _, _, _, _, _, _, _, _, _, _, _, _, _, _, _, _, _, _, rfl, fun h => F0 (ls (by decide) h), fun h => F1 (ls (by decide) h), fun h => F2 (ls (by decide) h), fun _ => rfl, fun h => F4 (ls (by decide) h), fun h => F5 (ls (by decide) h), fun h => F6 (ls (by decide) h), fun h => F7 (ls (by decide) h), fun h => F8 (ls (by decide) h), fun h => F9 (ls (by decide) h), fun h => F10 (ls (by decide) h), fun h => F11 (ls (by decide) h), fun h => F12 (ls (by decide) h), fun h => F13 (ls (by decide) h), fun h => F14 (ls (by decide) h), fun h => F15 (ls (by decide) h), fun h => F16 (ls (by decide) h), fun h => F17 (ls (by decide) h), fun h => F18 (ls (by decide) h), fun h => F19 (ls (by decide) h), fun h => F20 (ls (by decide) h), fun h => F21 (ls (by decide) h), F22, F23, F24, F25, F26⟩
    · simp only [List.getElem?_toArray, List.getElem?_cons_zero, List.getElem?_cons_succ, Option.some.injEq] at ho
      subst ho
      refine wpOp_step rfl (fun K hK => ?_)
      go_simp
      refine hK _ _ ?_
      exact ⟨_, _, _, _, _, _, _, _, _, _, _, _, _, _, _, _, _, _, _, _, rfl, fun h => F0 (ls (by decide) h), fun h => F1 (ls (by decide) h), fun h => F2 (ls (by decide) h), fun h => F3 (ls (by decide) h), fun _ => rfl, fun h => F5 (ls (by decide) h), fun h => F6 (ls (by decide) h), fun h => F7 (ls (by decide) h), fun h => F8 (ls (by decide) h), fun h => F9 (ls (by decide) h), fun h => F10 (ls (by decide) h), fun h => F11 (ls (by decide) h), fun h => F12 (ls (by decide) h), fun h => F13 (ls (by decide) h), fun h => F14 (ls (by decide) h), fun h => F15 (ls (by decide) h), fun h => F16 (ls (by decide) h), fun h => F17 (ls (by decide) h), fun h => F18 (ls (by decide) h), fun h => F19 (ls (by decide) h), fun h => F20 (ls (by decide) h), fun h => F21 (ls (by decide) h), F22, F23, F24, F25, F26⟩
    · simp only [List.getElem?_toArray, List.getElem?_cons_zero, List.getElem?_cons_succ, Option.some.injEq] at ho
      subst ho
      obtain rfl := F4 (hd ⟨4, .data⟩ (by simp) rfl)
      have O'0 := F23; obtain ⟨_, _, _, _⟩ := O'0
      refine wpOp_step rfl (fun K hK => ?_)
      go_simp
      refine hK _ _ ?_
      exact ⟨_, _, _, _, _, _, _, _, _, _, _, _, _, _, _, _, _, _, _, _, rfl, fun h => F0 (ls (by decide) h), fun h => F1 (ls (by decide) h), fun h => F2 (ls (by decide) h), fun h => F3 (ls (by decide) h), fun h => F4 (ls (by decide) h), fun _ => rfl, fun h => F6 (ls (by decide) h), fun h => F7 (ls (by decide) h), fun h => F8 (ls (by decide) h), fun h => F9 (ls (by decide) h), fun h => F10 (ls (by decide) h), fun h => F11 (ls (by decide) h), fun h => F12 (ls (by decide) h), fun h => F13 (ls (by decide) h), fun h => F14 (ls (by decide) h), fun h => F15 (ls (by decide) h), fun h => F16 (ls (by decide) h), fun h => F17 (ls (by decide) h), fun h => F18 (ls (by decide) h), fun h => F19 (ls (by decide) h), fun h => F20 (ls (by decide) h), fun h => F21 (ls (by decide) h), F22, F23, F24, F25, F26⟩
    · simp only [List.getElem?_toArray, List.getElem?_cons_zero, List.getElem?_cons_succ, Option.some.injEq] at ho
      subst ho
      obtain rfl := F3 (hd ⟨3, .data⟩ (by simp) rfl)
      obtain rfl := F5 (hd ⟨5, .data⟩ (by simp) rfl)
      refine wpOp_step rfl (fun K hK => ?_)
      go_simp
      refine hK _ _ ?_
      exact ⟨_, _, _, _, _, _, _, _, _, _, _, _, _, _, _, _, _, _, _, _, rfl, fun h => F0 (ls (by decide) h), fun h => F1 (ls (by decide) h), fun h => F2 (ls (by decide) h), fun h => F3 (ls (by decide) h), fun h => F4 (ls (by decide) h), fun h => F5 (ls (by decide) h), fun _ => rfl, fun h => F7 (ls (by decide) h), fun h => F8 (ls (by decide) h), fun h => F9 (ls (by decide) h), fun h => F10 (ls (by decide) h), fun h => F11 (ls (by decide) h), fun h => F12 (ls (by decide) h), fun h => F13 (ls (by decide) h), fun h => F14 (ls (by decide) h), fun h => F15 (ls (by decide) h), fun h => F16 (ls (by decide) h), fun h => F17 (ls (by decide) h), fun h => F18 (ls (by decide) h), fun h => F19 (ls (by decide) h), fun h => F20 (ls (by decide) h), fun h => F21 (ls (by decide) h), F22, F23, F24, F25, F26⟩
    · simp only [List.getElem?_toArray, List.getElem?_cons_zero, List.getElem?_cons_succ, Option.some.injEq] at ho
      subst ho
      obtain rfl := F6 (hd ⟨6, .data⟩ (by simp) rfl)
      refine wpOp_step rfl (fun K hK => ?_)
      go_simp
      go_at_call 83; refine (H2.out.call _).mono ?_; rintro e w' ⟨rfl, hb⟩
      refine hK _ _ ?_
      exact ⟨_, _, _, _, _, _, _, _, _, _, _, _, _, _, _, _, _, _, _, _, rfl, fun h => F0 (ls (by decide) h), fun h => F1 (ls (by decide) h), fun h => F2 (ls (by decide) h), fun h => F3 (ls (by decide) h), fun h => F4 (ls (by decide) h), fun h => F5 (ls (by decide) h), fun h => F6 (ls (by decide) h), fun _ => rfl, fun h => F8 (ls (by decide) h), fun h => F9 (ls (by decide) h), fun h => F10 (ls (by decide) h), fun h => F11 (ls (by decide) h), fun h => F12 (ls (by decide) h), fun h => F13 (ls (by decide) h), fun h => F14 (ls (by decide) h), fun h => F15 (ls (by decide) h), fun h => F16 (ls (by decide) h), fun h => F17 (ls (by decide) h), fun h => F18 (ls (by decide) h), fun h => ((F19 (ls (by decide) h))).call hb, fun h => ((F20 (ls (by decide) h))).call hb, fun h => F21 (ls (by decide) h), bt F22 hb, (F23).call hb, (F24).call hb, (let ⟨u, v, c⟩ := F25; ⟨u, v, (c).call hb⟩), (let ⟨u, v, c⟩ := F26; ⟨u, v, (c).call hb⟩)⟩
    · simp only [List.getElem?_toArray, List.getElem?_cons_zero, List.getElem?_cons_succ, Option.some.injEq] at ho
      subst ho
      obtain rfl := F2 (hd ⟨2, .data⟩ (by simp) rfl)
      obtain rfl := F7 (hd ⟨7, .data⟩ (by simp) rfl)
      refine wpOp_step rfl (fun K hK => ?_)
      go_simp
      go_at_call 82; refine (H3.out.call _).mono ?_; rintro e w' ⟨rfl, hb⟩
      refine hK _ _ ?_
      exact ⟨_, _, _, _, _, _, _, _, _, _, _, _, _, _, _, _, _, _, _, _, rfl, fun h => F0 (ls (by decide) h), fun h => F1 (ls (by decide) h), fun h => F2 (ls (by decide) h), fun h => F3 (ls (by decide) h), fun h => F4 (ls (by decide) h), fun h => F5 (ls (by decide) h), fun h => F6 (ls (by decide) h), fun h => F7 (ls (by decide) h), fun _ => rfl, fun h => F9 (ls (by decide) h), fun h => F10 (ls (by decide) h), fun h => F11 (ls (by decide) h), fun h => F12 (ls (by decide) h), fun h => F13 (ls (by decide) h), fun h => F14 (ls (by decide) h), fun h => F15 (ls (by decide) h), fun h => F16 (ls (by decide) h), fun h => F17 (ls (by decide) h), fun h => F18 (ls (by decide) h), fun h => ((F19 (ls (by decide) h))).call hb, fun h => ((F20 (ls (by decide) h))).call hb, fun h => F21 (ls (by decide) h), bt F22 hb, (F23).call hb, (F24).call hb, (let ⟨u, v, c⟩ := F25; ⟨u, v, (c).call hb⟩), (let ⟨u, v, c⟩ := F26; ⟨u, v, (c).call hb⟩)⟩
    · simp only [List.getElem?_toArray, List.getElem?_cons_zero, List.getElem?_cons_succ, Option.some.injEq] at ho
      subst ho
      refine wpOp_step rfl (fun K hK => ?_)
      go_simp
      refine hK _ _ ?_
      exact ⟨_, _, _, _, _, _, _, _, _, _, _, _, _, _, _, _, _, _, _, _, rfl, fun h => F0 (ls (by decide) h), fun h => F1 (ls (by decide) h), fun h => F2 (ls (by decide) h), fun h => F3 (ls (by decide) h), fun h => F4 (ls (by decide) h), fun h => F5 (ls (by decide) h), fun h => F6 (ls (by decide) h), fun h => F7 (ls (by decide) h), fun h => F8 (ls (by decide) h), fun _ => rfl, fun h => F10 (ls (by decide) h), fun h => F11 (ls (by decide) h), fun h => F12 (ls (by decide) h), fun h => F13 (ls (by decide) h), fun h => F14 (ls (by decide) h), fun h => F15 (ls (by decide) h), fun h => F16 (ls (by decide) h), fun h => F17 (ls (by decide) h), fun h => F18 (ls (by decide) h), fun h => F19 (ls (by decide) h), fun h => F20 (ls (by decide) h), fun h => F21 (ls (by decide) h), F22, F23, F24, F25, F26⟩
    · simp only [List.getElem?_toArray, List.getElem?_cons_zero, List.getElem?_cons_succ, Option.some.injEq] at ho
      subst ho
      obtain rfl := F9 (hd ⟨9, .data⟩ (by simp) rfl)
      have O'1 := F24; obtain ⟨_, _, _, _⟩ := O'1
      refine wpOp_step rfl (fun K hK => ?_)
      go_simp
      refine hK _ _ ?_
      exact ⟨_, _, _, _, _, _, _, _, _, _, _, _, _, _, _, _, _, _, _, _, rfl, fun h => F0 (ls (by decide) h), fun h => F1 (ls (by decide) h), fun h => F2 (ls (by decide) h), fun h => F3 (ls (by decide) h), fun h => F4 (ls (by decide) h), fun h => F5 (ls (by decide) h), fun h => F6 (ls (by decide) h), fun h => F7 (ls (by decide) h), fun h => F8 (ls (by decide) h), fun h => F9 (ls (by decide) h), fun _ => rfl, fun h => F11 (ls (by decide) h), fun h => F12 (ls (by decide) h), fun h => F13 (ls (by decide) h), fun h => F14 (ls (by decide) h), fun h => F15 (ls (by decide) h), fun h => F16 (ls (by decide) h), fun h => F17 (ls (by decide) h), fun h => F18 (ls (by decide) h), fun h => F19 (ls (by decide) h), fun h => F20 (ls (by decide) h), fun h => F21 (ls (by decide) h), F22, F23, F24, F25, F26⟩
    · simp only [List.getElem?_toArray, List.getElem?_cons_zero, List.getElem?_cons_succ, Option.some.injEq] at ho
      subst ho
      obtain rfl := F10 (hd ⟨10, .data⟩ (by simp) rfl)
      refine wpOp_step rfl (fun K hK => ?_)
      go_simp
      go_at_call 81; refine (H4.out.call _).mono ?_; rintro e w' ⟨rfl, hb⟩
      refine hK _ _ ?_
      exact ⟨_, _, _, _, _, _, _, _, _, _, _, _, _, _, _, _, _, _, _, _, rfl, fun h => F0 (ls (by decide) h), fun h => F1 (ls (by decide) h), fun h => F2 (ls (by decide) h), fun h => F3 (ls (by decide) h), fun h => F4 (ls (by decide) h), fun h => F5 (ls (by decide) h), fun h => F6 (ls (by decide) h), fun h => F7 (ls (by decide) h), fun h => F8 (ls (by decide) h), fun h => F9 (ls (by decide) h), fun h => F10 (ls (by decide) h), fun _ => rfl, fun h => F12 (ls (by decide) h), fun h => F13 (ls (by decide) h), fun h => F14 (ls (by decide) h), fun h => F15 (ls (by decide) h), fun h => F16 (ls (by decide) h), fun h => F17 (ls (by decide) h), fun h => F18 (ls (by decide) h), fun h => ((F19 (ls (by decide) h))).call hb, fun h => ((F20 (ls (by decide) h))).call hb, fun h => F21 (ls (by decide) h), bt F22 hb, (F23).call hb, (F24).call hb, (let ⟨u, v, c⟩ := F25; ⟨u, v, (c).call hb⟩), (let ⟨u, v, c⟩ := F26; ⟨u, v, (c).call hb⟩)⟩
    · simp only [List.getElem?_toArray, List.getElem?_cons_zero, List.getElem?_cons_succ, Option.some.injEq] at ho
      subst ho
      refine wpOp_step rfl (fun K hK => ?_)
      go_simp
      refine hK _ _ ?_
      exact ⟨_, _, _, _, _, _, _, _, _, _, _, _, _, _, _, _, _, _, _, _, rfl, fun h => F0 (ls (by decide) h), fun h => F1 (ls (by decide) h), fun h => F2 (ls (by decide) h), fun h => F3 (ls (by decide) h), fun h => F4 (ls (by decide) h), fun h => F5 (ls (by decide) h), fun h => F6 (ls (by decide) h), fun h => F7 (ls (by decide) h), fun h => F8 (ls (by decide) h), fun h => F9 (ls (by decide) h), fun h => F10 (ls (by decide) h), fun h => F11 (ls (by decide) h), fun _ => rfl, fun h => F13 (ls (by decide) h), fun h => F14 (ls (by decide) h), fun h => F15 (ls (by decide) h), fun h => F16 (ls (by decide) h), fun h => F17 (ls (by decide) h), fun h => F18 (ls (by decide) h), fun h => F19 (ls (by decide) h), fun h => F20 (ls (by decide) h), fun h => F21 (ls (by decide) h), F22, F23, F24, F25, F26⟩
    · simp only [List.getElem?_toArray, List.getElem?_cons_zero, List.getElem?_cons_succ, Option.some.injEq] at ho
      subst ho
      refine wpOp_step rfl (fun K hK => ?_)
      go_simp
      refine hK _ _ ?_
      exact ⟨_, _, _, _, _, _, _, _, _, _, _, _, _, _, _, _, _, _, _, _, rfl, fun h => F0 (ls (by decide) h), fun h => F1 (ls (by decide) h), fun h => F2 (ls (by decide) h), fun h => F3 (ls (by decide) h), fun h => F4 (ls (by decide) h), fun h => F5 (ls (by decide) h), fun h => F6 (ls (by decide) h), fun h => F7 (ls (by decide) h), fun h => F8 (ls (by decide) h), fun h => F9 (ls (by decide) h), fun h => F10 (ls (by decide) h), fun h => F11 (ls (by decide) h), fun h => F12 (ls (by decide) h), fun _ => rfl, fun h => F14 (ls (by decide) h), fun h => F15 (ls (by decide) h), fun h => F16 (ls (by decide) h), fun h => F17 (ls (by decide) h), fun h => F18 (ls (by decide) h), fun h => F19 (ls (by decide) h), fun h => F20 (ls (by decide) h), fun h => F21 (ls (by decide) h), F22, F23, F24, F25, F26⟩
    · simp only [List.getElem?_toArray, List.getElem?_cons_zero, List.getElem?_cons_succ, Option.some.injEq] at ho
      subst ho
      obtain rfl := F13 (hd ⟨13, .data⟩ (by simp) rfl)
      have O'1 := F24; obtain ⟨_, _, _, _⟩ := O'1
      refine wpOp_step rfl (fun K hK => ?_)
      go_simp
      refine hK _ _ ?_
      exact ⟨_, _, _, _, _, _, _, _, _, _, _, _, _, _, _, _, _, _, _, _, rfl, fun h => F0 (ls (by decide) h), fun h => F1 (ls (by decide) h), fun h => F2 (ls (by decide) h), fun h => F3 (ls (by decide) h), fun h => F4 (ls (by decide) h), fun h => F5 (ls (by decide) h), fun h => F6 (ls (by decide) h), fun h => F7 (ls (by decide) h), fun h => F8 (ls (by decide) h), fun h => F9 (ls (by decide) h), fun h => F10 (ls (by decide) h), fun h => F11 (ls (by decide) h), fun h => F12 (ls (by decide) h), fun h => F13 (ls (by decide) h), fun _ => rfl, fun h => F15 (ls (by decide) h), fun h => F16 (ls (by decide) h), fun h => F17 (ls (by decide) h), fun h => F18 (ls (by decide) h), fun h => F19 (ls (by decide) h), fun h => F20 (ls (by decide) h), fun h => F21 (ls (by decide) h), F22, F23, F24, F25, F26⟩
    · simp only [List.getElem?_toArray, List.getElem?_cons_zero, List.getElem?_cons_succ, Option.some.injEq] at ho
      subst ho
      obtain rfl := F12 (hd ⟨12, .data⟩ (by simp) rfl)
      obtain rfl := F14 (hd ⟨14, .data⟩ (by simp) rfl)
      refine wpOp_step rfl (fun K hK => ?_)
      go_simp
      refine hK _ _ ?_
      exact ⟨_, _, _, _, _, _, _, _, _, _, _, _, _, _, _, _, _, _, _, _, rfl, fun h => F0 (ls (by decide) h), fun h => F1 (ls (by decide) h), fun h => F2 (ls (by decide) h), fun h => F3 (ls (by decide) h), fun h => F4 (ls (by decide) h), fun h => F5 (ls (by decide) h), fun h => F6 (ls (by decide) h), fun h => F7 (ls (by decide) h), fun h => F8 (ls (by decide) h), fun h => F9 (ls (by decide) h), fun h => F10 (ls (by decide) h), fun h => F11 (ls (by decide) h), fun h => F12 (ls (by decide) h), fun h => F13 (ls (by decide) h), fun h => F14 (ls (by decide) h), fun _ => rfl, fun h => F16 (ls (by decide) h), fun h => F17 (ls (by decide) h), fun h => F18 (ls (by decide) h), fun h => F19 (ls (by decide) h), fun h => F20 (ls (by decide) h), fun h => F21 (ls (by decide) h), F22, F23, F24, F25, F26⟩
    · simp only [List.getElem?_toArray, List.getElem?_cons_zero, List.getElem?_cons_succ, Option.some.injEq] at ho
      subst ho
      obtain rfl := F15 (hd ⟨15, .data⟩ (by simp) rfl)
      refine wpOp_step rfl (fun K hK => ?_)
      go_simp
      go_at_call 83; refine (H5.out.call _).mono ?_; rintro e w' ⟨rfl, hb⟩
      refine hK _ _ ?_
      exact ⟨_, _, _, _, _, _, _, _, _, _, _, _, _, _, _, _, _, _, _, _, rfl, fun h => F0 (ls (by decide) h), fun h => F1 (ls (by decide) h), fun h => F2 (ls (by decide) h), fun h => F3 (ls (by decide) h), fun h => F4 (ls (by decide) h), fun h => F5 (ls (by decide) h), fun h => F6 (ls (by decide) h), fun h => F7 (ls (by decide) h), fun h => F8 (ls (by decide) h), fun h => F9 (ls (by decide) h), fun h => F10 (ls (by decide) h), fun h => F11 (ls (by decide) h), fun h => F12 (ls (by decide) h), fun h => F13 (ls (by decide) h), fun h => F14 (ls (by decide) h), fun h => F15 (ls (by decide) h), fun _ => rfl, fun h => F17 (ls (by decide) h), fun h => F18 (ls (by decide) h), fun h => ((F19 (ls (by decide) h))).call hb, fun h => ((F20 (ls (by decide) h))).call hb, fun h => F21 (ls (by decide) h), bt F22 hb, (F23).call hb, (F24).call hb, (let ⟨u, v, c⟩ := F25; ⟨u, v, (c).call hb⟩), (let ⟨u, v, c⟩ := F26; ⟨u, v, (c).call hb⟩)⟩
    · simp only [List.getElem?_toArray, List.getElem?_cons_zero, List.getElem?_cons_succ, Option.some.injEq] at ho
      subst ho
      obtain rfl := F11 (hd ⟨11, .data⟩ (by simp) rfl)
      obtain rfl := F16 (hd ⟨16, .data⟩ (by simp) rfl)
      refine wpOp_step rfl (fun K hK => ?_)
      go_simp
      go_at_call 82; refine (H6.out.call _).mono ?_; rintro e w' ⟨rfl, hb⟩
      refine hK _ _ ?_
      exact ⟨_, _, _, _, _, _, _, _, _, _, _, _, _, _, _, _, _, _, _, _, rfl, fun h => F0 (ls (by decide) h), fun h => F1 (ls (by decide) h), fun h => F2 (ls (by decide) h), fun h => F3 (ls (by decide) h), fun h => F4 (ls (by decide) h), fun h => F5 (ls (by decide) h), fun h => F6 (ls (by decide) h), fun h => F7 (ls (by decide) h), fun h => F8 (ls (by decide) h), fun h => F9 (ls (by decide) h), fun h => F10 (ls (by decide) h), fun h => F11 (ls (by decide) h), fun h => F12 (ls (by decide) h), fun h => F13 (ls (by decide) h), fun h => F14 (ls (by decide) h), fun h => F15 (ls (by decide) h), fun h => F16 (ls (by decide) h), fun _ => rfl, fun h => F18 (ls (by decide) h), fun h => ((F19 (ls (by decide) h))).call hb, fun h => ((F20 (ls (by decide) h))).call hb, fun h => F21 (ls (by decide) h), bt F22 hb, (F23).call hb, (F24).call hb, (let ⟨u, v, c⟩ := F25; ⟨u, v, (c).call hb⟩), (let ⟨u, v, c⟩ := F26; ⟨u, v, (c).call hb⟩)⟩
    · simp only [List.getElem?_toArray, List.getElem?_cons_zero, List.getElem?_cons_succ, Option.some.injEq] at ho
      subst ho
      refine wpOp_step rfl (fun K hK => ?_)
      go_simp
      refine hK _ _ ?_
      exact ⟨_, _, _, _, _, _, _, _, _, _, _, _, _, _, _, _, _, _, _, _, rfl, fun h => F0 (ls (by decide) h), fun h => F1 (ls (by decide) h), fun h => F2 (ls (by decide) h), fun h => F3 (ls (by decide) h), fun h => F4 (ls (by decide) h), fun h => F5 (ls (by decide) h), fun h => F6 (ls (by decide) h), fun h => F7 (ls (by decide) h), fun h => F8 (ls (by decide) h), fun h => F9 (ls (by decide) h), fun h => F10 (ls (by decide) h), fun h => F11 (ls (by decide) h), fun h => F12 (ls (by decide) h), fun h => F13 (ls (by decide) h), fun h => F14 (ls (by decide) h), fun h => F15 (ls (by decide) h), fun h => F16 (ls (by decide) h), fun h => F17 (ls (by decide) h), fun _ => rfl, fun h => F19 (ls (by decide) h), fun h => F20 (ls (by decide) h), fun h => F21 (ls (by decide) h), F22, F23, F24, F25, F26⟩
    · simp only [List.getElem?_toArray, List.getElem?_cons_zero, List.getElem?_cons_succ, Option.some.injEq] at ho
      subst ho
      obtain rfl := F8 (hd ⟨8, .data⟩ (by simp) rfl)
      obtain ⟨u'2, v'2, O'2⟩ := F25; have O''2 := O'2; obtain ⟨_, _, _, _⟩ := O''2
      refine wpOp_step rfl (fun K hK => ?_)
      go_simp
      refine hK _ _ ?_
      exact ⟨_, _, _, _, _, _, _, _, _, _, _, _, _, _, _, _, _, _, _, _, rfl, fun h => F0 (ls (by decide) h), fun h => F1 (ls (by decide) h), fun h => F2 (ls (by decide) h), fun h => F3 (ls (by decide) h), fun h => F4 (ls (by decide) h), fun h => F5 (ls (by decide) h), fun h => F6 (ls (by decide) h), fun h => F7 (ls (by decide) h), fun h => F8 (ls (by decide) h), fun h => F9 (ls (by decide) h), fun h => F10 (ls (by decide) h), fun h => F11 (ls (by decide) h), fun h => F12 (ls (by decide) h), fun h => F13 (ls (by decide) h), fun h => F14 (ls (by decide) h), fun h => F15 (ls (by decide) h), fun h => F16 (ls (by decide) h), fun h => F17 (ls (by decide) h), fun h => F18 (ls (by decide) h), fun _ => O'2.store _ _, fun h => ((F20 (ls (by decide) h)).set_ (by first | (simp; done) | (simp; omega))).set_ (by first | (simp; done) | (simp; omega)), fun h => F21 (ls (by decide) h), bs (bs F22 (by first | (simp; done) | (simp; omega))) (by first | (simp; done) | (simp; omega)), ((F23).set_ (by first | (simp; done) | (simp; omega))).set_ (by first | (simp; done) | (simp; omega)), ((F24).set_ (by first | (simp; done) | (simp; omega))).set_ (by first | (simp; done) | (simp; omega)), ⟨_, _, O'2.store _ _⟩, (let ⟨u, v, c⟩ := F26; ⟨u, v, (c.set_ (by first | (simp; done) | (simp; omega))).set_ (by first | (simp; done) | (simp; omega))⟩)⟩
    · simp only [List.getElem?_toArray, List.getElem?_cons_zero, List.getElem?_cons_succ, Option.some.injEq] at ho
      subst ho
      obtain rfl := F17 (hd ⟨17, .data⟩ (by simp) rfl)
      obtain ⟨u'3, v'3, O'3⟩ := F26; have O''3 := O'3; obtain ⟨_, _, _, _⟩ := O''3
      refine wpOp_step rfl (fun K hK => ?_)
      go_simp
      refine hK _ _ ?_
      exact ⟨_, _, _, _, _, _, _, _, _, _, _, _, _, _, _, _, _, _, _, _, rfl, fun h => F0 (ls (by decide) h), fun h => F1 (ls (by decide) h), fun h => F2 (ls (by decide) h), fun h => F3 (ls (by decide) h), fun h => F4 (ls (by decide) h), fun h => F5 (ls (by decide) h), fun h => F6 (ls (by decide) h), fun h => F7 (ls (by decide) h), fun h => F8 (ls (by decide) h), fun h => F9 (ls (by decide) h), fun h => F10 (ls (by decide) h), fun h => F11 (ls (by decide) h), fun h => F12 (ls (by decide) h), fun h => F13 (ls (by decide) h), fun h => F14 (ls (by decide) h), fun h => F15 (ls (by decide) h), fun h => F16 (ls (by decide) h), fun h => F17 (ls (by decide) h), fun h => F18 (ls (by decide) h), fun h => ((F19 (ls (by decide) h)).set_ (by first | (simp; done) | (simp; omega))).set_ (by first | (simp; done) | (simp; omega)), fun _ => O'3.store _ _, fun h => F21 (ls (by decide) h), bs (bs F22 (by first | (simp; done) | (simp; omega))) (by first | (simp; done) | (simp; omega)), ((F23).set_ (by first | (simp; done) | (simp; omega))).set_ (by first | (simp; done) | (simp; omega)), ((F24).set_ (by first | (simp; done) | (simp; omega))).set_ (by first | (simp; done) | (simp; omega)), (let ⟨u, v, c⟩ := F25; ⟨u, v, (c.set_ (by first | (simp; done) | (simp; omega))).set_ (by first | (simp; done) | (simp; omega))⟩), ⟨_, _, O'3.store _ _⟩⟩
    · simp only [List.getElem?_toArray, List.getElem?_cons_zero, List.getElem?_cons_succ, Option.some.injEq] at ho
      subst ho
      obtain rfl := F18 (hd ⟨18, .data⟩ (by simp) rfl)
      refine wpOp_step rfl (fun K hK => ?_)
      go_simp
      refine hK _ _ ?_
      exact ⟨_, _, _, _, _, _, _, _, _, _, _, _, _, _, _, _, _, _, _, _, rfl, fun h => F0 (ls (by decide) h), fun h => F1 (ls (by decide) h), fun h => F2 (ls (by decide) h), fun h => F3 (ls (by decide) h), fun h => F4 (ls (by decide) h), fun h => F5 (ls (by decide) h), fun h => F6 (ls (by decide) h), fun h => F7 (ls (by decide) h), fun h => F8 (ls (by decide) h), fun h => F9 (ls (by decide) h), fun h => F10 (ls (by decide) h), fun h => F11 (ls (by decide) h), fun h => F12 (ls (by decide) h), fun h => F13 (ls (by decide) h), fun h => F14 (ls (by decide) h), fun h => F15 (ls (by decide) h), fun h => F16 (ls (by decide) h), fun h => F17 (ls (by decide) h), fun h => F18 (ls (by decide) h), fun h => F19 (ls (by decide) h), fun h => F20 (ls (by decide) h), fun _ => rfl, F22, F23, F24, F25, F26⟩
  · intro listed A w hall hI
    obtain ⟨s6, s13, s14, s15, s16, s17, s18, s19, s20, s21, s22, s23, s24, s25, s26, s27, s28, s29, s30, s31, rfl, F0, F1, F2, F3, F4, F5, F6, F7, F8, F9, F10, F11, F12, F13, F14, F15, F16, F17, F18, F19, F20, F21, F22, F23, F24, F25, F26⟩ := hI
    obtain rfl := F0 (hall 0 (by decide))
    obtain rfl := F1 (hall 1 (by decide))
    obtain rfl := F2 (hall 2 (by decide))
    obtain rfl := F3 (hall 3 (by decide))
    obtain rfl := F4 (hall 4 (by decide))
    obtain rfl := F5 (hall 5 (by decide))
    obtain rfl := F6 (hall 6 (by decide))
    obtain rfl := F7 (hall 7 (by decide))
    obtain rfl := F8 (hall 8 (by decide))
    obtain rfl := F9 (hall 9 (by decide))
    obtain rfl := F10 (hall 10 (by decide))
    obtain rfl := F11 (hall 11 (by decide))
    obtain rfl := F12 (hall 12 (by decide))
    obtain rfl := F13 (hall 13 (by decide))
    obtain rfl := F14 (hall 14 (by decide))
    obtain rfl := F15 (hall 15 (by decide))
    obtain rfl := F16 (hall 16 (by decide))
    obtain rfl := F17 (hall 17 (by decide))
    obtain rfl := F18 (hall 18 (by decide))
    obtain rfl := F21 (hall 21 (by decide))
    have P19 := F19 (hall 19 (by decide))
    have P20 := F20 (hall 20 (by decide))
    have HB := F22
    have B0 := F23
    have B1 := F24
    have B2 := F25
    have B3 := F26
    clear hall F19 F20 F22 F23 F24 F25 F26 F0 F1 F2 F3 F4 F5 F6 F7 F8 F9 F10 F11 F12 F13 F14 F15 F16 F17 F18 F21
    try dsimp only

    obtain ⟨_, _, _, _⟩ := P19
    obtain ⟨_, _, _, _⟩ := P20
    go_wp2
    exact bodyPost_ret (v := .tuple #[.agg #[.int .u64 (hi x), .int .u64 (lo x)], .agg #[.int .u64 (hi y), .int .u64 (lo y)], .int .i64 s]) (by simp [results, Tryz.results53, go_sem, *]) rfl ⟨rfl, HB⟩
end Go.Proofs
namespace Go.Proofs
open Go.Shelf Go.RowKit Go.Proofs.Wide

theorem bkeep {W w1 : World} (hb : Below W.heap.size W w1) : (∀ b o, b < W.heap.size → w1.cell? ⟨b, o, none⟩ = W.cell? ⟨b, o, none⟩) ∧ (∀ b o, b < W.heap.size → w1.frozen? ⟨b, o, none⟩ = W.frozen? ⟨b, o, none⟩) ∧ (∀ n, n < W.heap.size → n < w1.heap.size) ∧ (∀ n, n ≤ W.heap.size → n ≤ w1.heap.size) :=
  ⟨fun b o h => hb.cell (p := ⟨b, o, none⟩) h, fun b o h => hb.frozen (p := ⟨b, o, none⟩) h, fun _ h => Nat.lt_of_lt_of_le h hb.size, fun _ h => Nat.le_trans h hb.size⟩
theorem zz {W w1 : World} {n : Nat} (hb : Below W.heap.size W w1) (h : n < W.heap.size) : n < w1.heap.size := Nat.lt_of_lt_of_le h hb.size
/-- A right number, with its scale as a natural one. -/
theorem rightB_of {n : Int} {k : Nat} (h : RightZ n k) : rightB (n, (k : Int)) = true := by
  obtain ⟨a, b, c, d⟩ := h
  unfold rightB
  simp only [decide_eq_true_eq]
  exact ⟨a, b, by omega, by omega, by omega⟩
theorem nums_two {w : World} {g : Nat} {t : TypeId} (n k m l : Int) (hg : g = w.heap.size) : Nums (w.alloc (.cells #[.int .i64 n, .int .i64 k, .int .i64 m, .int .i64 l] t)) g [(n, k), (m, l)] := by
  subst hg
  intro i p h
  match i, h with
  | 0, h => injection h with h; subst h; simp [World.cell?_alloc_new]
  | 1, h => injection h with h; subst h; simp [World.cell?_alloc_new]
theorem nums_one {w : World} {g : Nat} {t : TypeId} (n k : Int) (hg : g = w.heap.size) : Nums (w.alloc (.cells #[.int .i64 n, .int .i64 k] t)) g [(n, k)] := by
  subst hg
  intro i p h
  match i, h with
  | 0, h => injection h with h; subst h; simp [World.cell?_alloc_new]
theorem right_two (n k m l : Int) (a : InI n) (b : InI k) (c : InI m) (d : InI l) (w : World) (t : TypeId) (g cap : Nat) (hg : g = w.heap.size) :
    Calls Tryz.prog 52 #[.slice (some ⟨g, 0, none⟩) 2 cap] (w.alloc (.cells #[.int .i64 n, .int .i64 k, .int .i64 m, .int .i64 l] t)) fun e w' => e = .returned (.bool (rightB (n, k) && rightB (m, l))) ∧
      Below (w.alloc (.cells #[.int .i64 n, .int .i64 k, .int .i64 m, .int .i64 l] t)).heap.size (w.alloc (.cells #[.int .i64 n, .int .i64 k, .int .i64 m, .int .i64 l] t)) w' := by
  have := right_any g cap [(n, k), (m, l)] (w.alloc (.cells #[.int .i64 n, .int .i64 k, .int .i64 m, .int .i64 l] t)) (by simp; exact ⟨⟨a, b⟩, c, d⟩) (by simp) (nums_two n k m l hg) (by simp; omega)
  simpa using this
theorem right_one (n k : Int) (a : InI n) (b : InI k) (w : World) (t : TypeId) (g cap : Nat) (hg : g = w.heap.size) :
    Calls Tryz.prog 52 #[.slice (some ⟨g, 0, none⟩) 1 cap] (w.alloc (.cells #[.int .i64 n, .int .i64 k] t)) fun e w' => e = .returned (.bool (rightB (n, k))) ∧
      Below (w.alloc (.cells #[.int .i64 n, .int .i64 k] t)).heap.size (w.alloc (.cells #[.int .i64 n, .int .i64 k] t)) w' := by
  have := right_any g cap [(n, k)] (w.alloc (.cells #[.int .i64 n, .int .i64 k] t)) (by simp; exact ⟨a, b⟩) (by simp) (nums_one n k hg) (by simp; omega)
  simpa using this

theorem rz_inI {n : Int} {k : Nat} (h : RightZ n k) : InI n ∧ InI (k : Int) := by
  obtain ⟨a, b, c, d⟩ := h; unfold InI; omega
theorem pow9 (j : Nat) (h : j ≤ 9) : (10 : Int) ^ j ≤ 1000000000 := by
  have a : (10 : Nat) ^ j ≤ 10 ^ 9 := Nat.pow_le_pow_right (by decide) h
  have e : (((10 : Nat) ^ j : Nat) : Int) = 10 ^ j := by simp
  rw [← e]; exact Int.ofNat_le.2 a
theorem mul_bd (n p c d : Int) (hn : -c ≤ n ∧ n ≤ c) (hp : 0 ≤ p ∧ p ≤ d) : -(c * d) ≤ n * p ∧ n * p ≤ c * d := by
  have h1 : n * p ≤ c * p := Int.mul_le_mul_of_nonneg_right hn.2 hp.1
  have h2 : -c * p ≤ n * p := Int.mul_le_mul_of_nonneg_right hn.1 hp.1
  have h3 : c * p ≤ c * d := Int.mul_le_mul_of_nonneg_left hp.2 (by omega)
  rw [Int.neg_mul] at h2
  omega
/-- The two numbers at one scale. -/
def sc (k l : Nat) : Nat := max k l
def lx (n : Int) (k l : Nat) : Int := n * 10 ^ (sc k l - k)
theorem lx_bd (n : Int) (k l : Nat) (h : RightZ n k) (hl : l ≤ 9) : -999999999999999999000000000 ≤ lx n k l ∧ lx n k l ≤ 999999999999999999000000000 := by
  obtain ⟨a, b, c, d⟩ := h
  have e : sc k l - k ≤ 9 := by unfold sc; omega
  have := mul_bd n _ 999999999999999999 1000000000 ⟨a, b⟩ ⟨Int.le_of_lt (ten_pos _), pow9 _ e⟩
  exact this
theorem sc_comm (k l : Nat) : sc k l = sc l k := by unfold sc; omega
theorem level_any (n m : Int) (k l : Nat) (h : RightZ n k) (h' : RightZ m l) (w : World) :
    Calls Tryz.prog 53 #[nv n k, nv m l] w fun e w' => e = .returned (.tuple #[wv (lx n k l), wv (lx m l k), .int .i64 (sc k l : Nat)]) ∧ Below w.heap.size w w' := by
  have hk := h.2.2.1
  have hl := h'.2.2.1
  obtain ⟨i1, i2⟩ := rz_inI h
  obtain ⟨i3, i4⟩ := rz_inI h'
  have e1 : ((sc k l : Nat) : Int) - (k : Int) = ((sc k l - k : Nat) : Int) := by unfold sc; omega
  have e2 : ((sc k l : Nat) : Int) - (l : Int) = ((sc k l - l : Nat) : Int) := by unfold sc; omega
  have s1 : sc k l - k ≤ 9 := by unfold sc; omega
  have s2 : sc k l - l ≤ 9 := by unfold sc; omega
  refine level_core n k m l (sc k l : Nat) (lx n k l) (lx m l k) (10 ^ (sc k l - k)) (10 ^ (sc k l - l)) w (by unfold sc; omega) (by rw [e1]; omega) (by rw [e2]; omega)
    (gives_unfold fun w => wideOf_any n i1.1 i1.2 w) (gives_unfold fun w => by rw [e1]; exact power_any _ (by omega) w) (gives_unfold fun w => times_any n _ w)
    (gives_unfold fun w => wideOf_any m i3.1 i3.2 w) (gives_unfold fun w => by rw [e2]; exact power_any _ (by omega) w) (gives_unfold fun w => ?_)
  unfold lx
  rw [sc_comm l k]
  exact times_any m _ w

def outV (r : Option (Int × Nat)) : Value := .tuple #[.agg #[.int .i64 (outN r), .int .i64 (outK r)], .int .i64 (outE r)]
def addZ (n : Int) (k : Nat) (m : Int) (l : Nat) : Option (Int × Nat) := fitZ (lx n k l + lx m l k) (sc k l)
def subZ (n : Int) (k : Nat) (m : Int) (l : Nat) : Option (Int × Nat) := fitZ (lx n k l - lx m l k) (sc k l)
def mulZ (n : Int) (k : Nat) (m : Int) (l : Nat) : Option (Int × Nat) := fitZ (n * m) (k + l)
def divZ (n : Int) (k : Nat) (m : Int) (l : Nat) : Option (Int × Nat) := fitZ ((n * 10 ^ (9 + l - k)).tdiv m) 9
def idivZ (n : Int) (k : Nat) (m : Int) (l : Nat) : Option (Int × Nat) := fitZ ((lx n k l).tdiv (lx m l k)) 0
def modZ (n : Int) (k : Nat) (m : Int) (l : Nat) : Option (Int × Nat) := fitZ ((lx n k l).tmod (lx m l k)) (sc k l)
def cmpZ (n : Int) (k : Nat) (m : Int) (l : Nat) : Int := if lx n k l < lx m l k then -1 else if lx n k l = lx m l k then 0 else 1
theorem sc_le {n m : Int} {k l : Nat} (h : RightZ n k) (h' : RightZ m l) : sc k l ≤ 9 := by have := h.2.2.1; have := h'.2.2.1; unfold sc; omega
/-- What the calls under a reckoning give. -/
theorem gl {n m : Int} {k l : Nat} (h : RightZ n k) (h' : RightZ m l) : Hid (Gives 53 #[nv n k, nv m l] (.tuple #[wv (lx n k l), wv (lx m l k), .int .i64 (sc k l : Nat)])) := gives_unfold fun w => level_any n m k l h h' w
theorem gf {z : Int} {s : Nat} (h1 : -170141183460469231731687303715884105728 < z) (h2 : z < 170141183460469231731687303715884105728) (hs : s ≤ 18) : Hid (Gives 54 #[wv z, .int .i64 s] (outV (fitZ z s))) := gives_unfold fun w => fit_any z s h1 h2 hs w

set_option maxHeartbeats 2000000 in
theorem sub_any (n m : Int) (k l : Nat) (h : RightZ n k) (h' : RightZ m l) (w0 : World) :
    Calls Tryz.prog 27 #[nv n k, nv m l] w0 fun e w' => e = .returned (outV (subZ n k m l)) ∧ Below w0.heap.size w0 w' := by
  obtain ⟨i1, i2⟩ := rz_inI h
  obtain ⟨i3, i4⟩ := rz_inI h'
  have R := fun w t g cap hg => right_two n k m l i1 i2 i3 i4 w t g cap hg
  rw [rightB_of h, rightB_of h'] at R
  have b1 := lx_bd n k l h h'.2.2.1
  have b2 := lx_bd m l k h' h.2.2.1
  have L := gl h h'
  have P : Hid (Gives 55 #[wv (lx n k l), wv (lx m l k)] (wv (lx n k l - lx m l k))) := gives_unfold fun w => minus_any (lx n k l) (lx m l k) w
  have F := gf (z := lx n k l - lx m l k) (s := sc k l) (by omega) (by omega) (by have := sc_le h h'; omega)
  have HR := Lib.hid R
  clear R b1 b2
  unfold subZ
  generalize fitZ (lx n k l - lx m l k) (sc k l) = r at *
  generalize lx n k l - lx m l k = z at *
  generalize lx n k l = x at *
  generalize lx m l k = y at *
  generalize ((sc k l : Nat) : Int) = s at *
  unfold outV at *
  generalize outN r = a at *
  generalize outK r = b at *
  generalize outE r = c at *
  unfold nv wv at *
  clear h h' i1 i2 i3 i4
  go_enter Tryz.func27, Tryz.ntmps27
  go_wp2_with (first
    | (go_at_call 52; refine (HR.out _ _ _ _ (by simp)).mono ?_; rintro e w1 ⟨rfl, hb1⟩; obtain ⟨hc1, hf1⟩ := bcell hb1; have z1 : w0.heap.size + 1 + 1 < w1.heap.size := zz hb1 (by first | assumption | (simp; done) | (simp; omega)); have y1 : w0.heap.size + 1 < w1.heap.size := (by omega); have x1 : w0.heap.size < w1.heap.size := (by omega))
    | (go_at_call 53; refine (L.out.call _).mono ?_; rintro e w2 ⟨rfl, hb2⟩; obtain ⟨hc2, hf2⟩ := bcell hb2; have z2 : w0.heap.size + 1 + 1 < w2.heap.size := zz hb2 (by first | assumption | (simp; done) | (simp; omega)); have y2 : w0.heap.size + 1 < w2.heap.size := (by omega); have x2 : w0.heap.size < w2.heap.size := (by omega))
    | (go_at_call 55; refine (P.out.call _).mono ?_; rintro e w3 ⟨rfl, hb3⟩; obtain ⟨hc3, hf3⟩ := bcell hb3; have z3 : w0.heap.size + 1 + 1 < w3.heap.size := zz hb3 (by first | assumption | (simp; done) | (simp; omega)); have y3 : w0.heap.size + 1 < w3.heap.size := (by omega); have x3 : w0.heap.size < w3.heap.size := (by omega))
    | (go_at_call 54; refine (F.out.call _).mono ?_; rintro e w4 ⟨rfl, hb4⟩; obtain ⟨hc4, hf4⟩ := bcell hb4; have z4 : w0.heap.size + 1 + 1 < w4.heap.size := zz hb4 (by first | assumption | (simp; done) | (simp; omega)); have y4 : w0.heap.size + 1 < w4.heap.size := (by omega); have x4 : w0.heap.size < w4.heap.size := (by omega)))
  exact bodyPost_ret (v := .tuple #[.agg #[.int .i64 a, .int .i64 b], .int .i64 c]) (by simp [results, Tryz.results27, go_sem, *]) rfl ⟨rfl, by repeat (first | exact Below.refl _ _ | apply ba | (refine bs ?_ (by first | (simp; done) | (simp; omega))) | (refine bt ?_ (by assumption)))⟩

set_option maxHeartbeats 2000000 in
theorem cmp_any (n m : Int) (k l : Nat) (h : RightZ n k) (h' : RightZ m l) (w0 : World) :
    Calls Tryz.prog 28 #[nv n k, nv m l] w0 fun e w' => e = .returned (.int .i64 (cmpZ n k m l)) ∧ Below w0.heap.size w0 w' := by
  obtain ⟨i1, i2⟩ := rz_inI h
  obtain ⟨i3, i4⟩ := rz_inI h'
  have R := fun w t g cap hg => right_two n k m l i1 i2 i3 i4 w t g cap hg
  rw [rightB_of h, rightB_of h'] at R
  have b1 := lx_bd n k l h h'.2.2.1
  have b2 := lx_bd m l k h' h.2.2.1
  have L := gl h h'
  have C : Hid (Gives 56 #[wv (lx n k l), wv (lx m l k)] (.int .i64 (cmpZ n k m l))) := gives_unfold fun w => cmp_lemma (lx n k l) (lx m l k) (by unfold InW; omega) w
  have HR := Lib.hid R
  clear R b1 b2
  generalize cmpZ n k m l = c at *
  generalize lx n k l = x at *
  generalize lx m l k = y at *
  generalize ((sc k l : Nat) : Int) = s at *
  unfold nv wv at *
  clear h h' i1 i2 i3 i4
  go_enter Tryz.func28, Tryz.ntmps28
  go_wp2_with (first
    | (go_at_call 52; refine (HR.out _ _ _ _ (by simp)).mono ?_; rintro e w1 ⟨rfl, hb1⟩; obtain ⟨hc1, hf1⟩ := bcell hb1; have z1 : w0.heap.size + 1 + 1 < w1.heap.size := zz hb1 (by first | assumption | (simp; done) | (simp; omega)); have y1 : w0.heap.size + 1 < w1.heap.size := (by omega); have x1 : w0.heap.size < w1.heap.size := (by omega))
    | (go_at_call 53; refine (L.out.call _).mono ?_; rintro e w2 ⟨rfl, hb2⟩; obtain ⟨hc2, hf2⟩ := bcell hb2; have z2 : w0.heap.size + 1 + 1 < w2.heap.size := zz hb2 (by first | assumption | (simp; done) | (simp; omega)); have y2 : w0.heap.size + 1 < w2.heap.size := (by omega); have x2 : w0.heap.size < w2.heap.size := (by omega))
    | (go_at_call 56; refine (C.out.call _).mono ?_; rintro e w3 ⟨rfl, hb3⟩; obtain ⟨hc3, hf3⟩ := bcell hb3; have z3 : w0.heap.size + 1 + 1 < w3.heap.size := zz hb3 (by first | assumption | (simp; done) | (simp; omega)); have y3 : w0.heap.size + 1 < w3.heap.size := (by omega); have x3 : w0.heap.size < w3.heap.size := (by omega)))
  go_ret
  exact ⟨rfl, by repeat (first | exact Below.refl _ _ | apply ba | (refine bs ?_ (by first | (simp; done) | (simp; omega))) | (refine bt ?_ (by assumption)))⟩

set_option maxHeartbeats 2000000 in
theorem divisor_zero (n m : Int) (k l : Nat) (h : RightZ n k) (h' : RightZ m l) (hm : m = 0) (w0 : World) :
    Calls Tryz.prog 108 #[nv n k, nv m l] w0 fun e w' => e = .returned (.int .i64 52) ∧ Below w0.heap.size w0 w' := by
  obtain ⟨i1, i2⟩ := rz_inI h
  obtain ⟨i3, i4⟩ := rz_inI h'
  have R := fun w t g cap hg => right_two n k m l i1 i2 i3 i4 w t g cap hg
  rw [rightB_of h, rightB_of h'] at R
  have HR := Lib.hid R
  subst hm
  clear R h h' i1 i2 i3 i4
  unfold nv at *
  go_enter Tryz.func108, Tryz.ntmps108
  go_wp2_with (first
    | (go_at_call 52; refine (HR.out _ _ _ _ (by simp)).mono ?_; rintro e w1 ⟨rfl, hb1⟩; obtain ⟨hc1, hf1⟩ := bcell hb1; have z1 : w0.heap.size + 1 + 1 < w1.heap.size := zz hb1 (by first | assumption | (simp; done) | (simp; omega)); have y1 : w0.heap.size + 1 < w1.heap.size := (by omega); have x1 : w0.heap.size < w1.heap.size := (by omega)))
  go_ret
  exact ⟨rfl, by repeat (first | exact Below.refl _ _ | apply ba | (refine bs ?_ (by first | (simp; done) | (simp; omega))) | (refine bt ?_ (by assumption)))⟩

set_option maxHeartbeats 2000000 in
theorem divisor_ok (n m : Int) (k l : Nat) (h : RightZ n k) (h' : RightZ m l) (hm : m ≠ 0) (w0 : World) :
    Calls Tryz.prog 108 #[nv n k, nv m l] w0 fun e w' => e = .returned (.int .i64 0) ∧ Below w0.heap.size w0 w' := by
  obtain ⟨i1, i2⟩ := rz_inI h
  obtain ⟨i3, i4⟩ := rz_inI h'
  have R := fun w t g cap hg => right_two n k m l i1 i2 i3 i4 w t g cap hg
  rw [rightB_of h, rightB_of h'] at R
  have HR := Lib.hid R
  have hm0 : ¬ m = 0 := hm
  clear R h h' i1 i2 i3 i4
  unfold nv at *
  go_enter Tryz.func108, Tryz.ntmps108
  go_wp2_with (first
    | (go_at_call 52; refine (HR.out _ _ _ _ (by simp)).mono ?_; rintro e w1 ⟨rfl, hb1⟩; obtain ⟨hc1, hf1⟩ := bcell hb1; have z1 : w0.heap.size + 1 + 1 < w1.heap.size := zz hb1 (by first | assumption | (simp; done) | (simp; omega)); have y1 : w0.heap.size + 1 < w1.heap.size := (by omega); have x1 : w0.heap.size < w1.heap.size := (by omega)))
  go_ret
  exact ⟨rfl, by repeat (first | exact Below.refl _ _ | apply ba | (refine bs ?_ (by first | (simp; done) | (simp; omega))) | (refine bt ?_ (by assumption)))⟩

set_option maxHeartbeats 2000000 in
theorem idiv_zero (n : Int) (k l : Nat) (h : RightZ n k) (h' : RightZ 0 l) (w0 : World) :
    Calls Tryz.prog 77 #[nv n k, nv 0 l] w0 fun e w' => e = .returned (.tuple #[.agg #[.int .i64 0, .int .i64 0], .int .i64 52]) ∧ Below w0.heap.size w0 w' := by
  have D : Hid (Gives 108 #[nv n k, nv 0 l] (.int .i64 52)) := gives_unfold fun w => divisor_zero n 0 k l h h' rfl w
  clear h h'
  unfold nv at *
  go_enter Tryz.func77, Tryz.ntmps77
  go_wp2_with (first
    | (go_at_call 108; refine (D.out.call _).mono ?_; rintro e w1 ⟨rfl, hb1⟩; obtain ⟨hc1, hf1⟩ := bcell hb1; have z1 : w0.heap.size + 1 + 1 < w1.heap.size := zz hb1 (by first | assumption | (simp; done) | (simp; omega)); have y1 : w0.heap.size + 1 < w1.heap.size := (by omega); have x1 : w0.heap.size < w1.heap.size := (by omega)))
  exact bodyPost_ret (v := .tuple #[.agg #[.int .i64 0, .int .i64 0], .int .i64 52]) (by simp [results, Tryz.results77, go_sem, *]) rfl ⟨rfl, by repeat (first | exact Below.refl _ _ | apply ba | (refine bs ?_ (by first | (simp; done) | (simp; omega))) | (refine bt ?_ (by assumption)))⟩

/-- A pair at one scale may be divided: of the two one is no longer than an int. -/
theorem lx_div (n m : Int) (k l : Nat) (h : RightZ n k) (h' : RightZ m l) (hm : m ≠ 0) : lx m l k ≠ 0 ∧
    ((-18446744073709551616 < lx m l k ∧ lx m l k < 18446744073709551616) ∨ (if lx n k l < 0 then -lx n k l else lx n k l) < (if lx m l k < 0 then -lx m l k else lx m l k)) ∧
    (-999999999999999999000000000 ≤ (lx n k l).tdiv (lx m l k) ∧ (lx n k l).tdiv (lx m l k) ≤ 999999999999999999000000000) ∧ (-999999999999999999 ≤ (lx n k l).tmod (lx m l k) ∧ (lx n k l).tmod (lx m l k) ≤ 999999999999999999) := by
  have b1 := lx_bd n k l h h'.2.2.1
  have b2 := lx_bd m l k h' h.2.2.1
  have hy : lx m l k ≠ 0 := by
    unfold lx; intro e
    rcases Int.mul_eq_zero.1 e with e | e
    · exact hm e
    · exact absurd e (Int.ne_of_gt (ten_pos _))
  obtain ⟨e1, e2⟩ := tdiv_size (lx n k l) (lx m l k) hy
  obtain ⟨a1, a2, _, _⟩ := h
  obtain ⟨c1, c2, _, _⟩ := h'
  have key : lx n k l = n ∨ lx m l k = m := by
    unfold lx sc
    by_cases hkl : k ≤ l
    · right; rw [show max l k - l = 0 by omega]; simp
    · left; rw [show max k l - k = 0 by omega]; simp
  have big : lx m l k = m ∨ lx n k l = n := key.symm
  generalize lx n k l = x at *
  generalize lx m l k = y at *
  rw [← e1, ← e2]
  have mb : ∀ u v : Int, 0 ≤ u → 0 < v → 0 ≤ u / v ∧ u / v ≤ u ∧ 0 ≤ u % v ∧ u % v < v ∧ u % v ≤ u := fun u v hu hv =>
    ⟨Int.ediv_nonneg hu (by omega), Int.ediv_le_self _ hu, Int.emod_nonneg _ (by omega), Int.emod_lt_of_pos _ hv, by
      have := Int.mul_ediv_add_emod u v
      have := Int.mul_nonneg (Int.le_of_lt hv) (Int.ediv_nonneg hu (Int.le_of_lt hv))
      omega⟩
  have hb := mb (if x < 0 then -x else x) (if y < 0 then -y else y) (by split <;> omega) (by split <;> omega)
  have hs : ∀ (c : Bool) (z : Int), (if c = true then -z else z) = z ∨ (if c = true then -z else z) = -z := fun c z => by cases c <;> simp
  have h1 := hs ((decide (x < 0)) != (decide (y < 0))) ((if x < 0 then -x else x) / (if y < 0 then -y else y))
  have h2 := hs (decide (x < 0)) ((if x < 0 then -x else x) % (if y < 0 then -y else y))
  have ax : (if x < 0 then -x else x) ≤ 999999999999999999000000000 := by split <;> omega
  have axy : (if x < 0 then -x else x) ≤ 999999999999999999 ∨ (if y < 0 then -y else y) ≤ 999999999999999999 := by
    rcases key with e | e
    · left; split <;> omega
    · right; split <;> omega
  have sy : (-18446744073709551616 < y ∧ y < 18446744073709551616) ∨ (if x < 0 then -x else x) < (if y < 0 then -y else y) := by
    rcases axy with e | e
    · by_cases hc : -18446744073709551616 < y ∧ y < 18446744073709551616
      · exact .inl hc
      · right
        have : 18446744073709551616 ≤ (if y < 0 then -y else y) := by split <;> omega
        omega
    · left
      by_cases hn : y < 0
      · rw [if_pos hn] at e; omega
      · rw [if_neg hn] at e; omega
  refine ⟨hy, sy, ?_, ?_⟩
  · generalize (if x < 0 then -x else x) = ux at *
    generalize (if y < 0 then -y else y) = uy at *
    omega
  · generalize (if x < 0 then -x else x) = ux at *
    generalize (if y < 0 then -y else y) = uy at *
    omega

set_option maxHeartbeats 4000000 in
theorem idiv_any (n m : Int) (k l : Nat) (h : RightZ n k) (h' : RightZ m l) (hm : m ≠ 0) (w0 : World) :
    Calls Tryz.prog 77 #[nv n k, nv m l] w0 fun e w' => e = .returned (outV (idivZ n k m l)) ∧ Below w0.heap.size w0 w' := by
  have V : Hid (Gives 108 #[nv n k, nv m l] (.int .i64 0)) := gives_unfold fun w => divisor_ok n m k l h h' hm w
  have b1 := lx_bd n k l h h'.2.2.1
  have b2 := lx_bd m l k h' h.2.2.1
  have dv := lx_div n m k l h h' hm
  have L := gl h h'
  have D : Hid (Gives 84 #[wv (lx n k l), wv (lx m l k)] (.tuple #[wv ((lx n k l).tdiv (lx m l k)), wv ((lx n k l).tmod (lx m l k))])) := gives_unfold fun w => divided_any (lx n k l) (lx m l k) (by omega) (by omega) (by omega) (by omega) dv.1 dv.2.1 w
  have F := gf (z := (lx n k l).tdiv (lx m l k)) (s := 0) (by omega) (by omega) (by decide)
  clear b1 b2 dv
  unfold idivZ
  generalize fitZ ((lx n k l).tdiv (lx m l k)) (0) = r at *
  generalize (lx n k l).tdiv (lx m l k) = q at *
  generalize (lx n k l).tmod (lx m l k) = d at *
  generalize lx n k l = x at *
  generalize lx m l k = y at *
  generalize ((sc k l : Nat) : Int) = s at *
  unfold outV at *
  generalize outN r = a at *
  generalize outK r = b at *
  generalize outE r = c at *
  rw [show ((0 : Nat) : Int) = 0 from rfl] at F
  unfold nv wv at *
  clear h h' hm
  go_enter Tryz.func77, Tryz.ntmps77
  go_wp2_with (first
    | (go_at_call 108; refine (V.out.call _).mono ?_; rintro e w1 ⟨rfl, hb1⟩; obtain ⟨hc1, hf1⟩ := bcell hb1; have z1 : w0.heap.size + 1 + 1 < w1.heap.size := zz hb1 (by first | assumption | (simp; done) | (simp; omega)); have y1 : w0.heap.size + 1 < w1.heap.size := (by omega); have x1 : w0.heap.size < w1.heap.size := (by omega))
    | (go_at_call 53; refine (L.out.call _).mono ?_; rintro e w2 ⟨rfl, hb2⟩; obtain ⟨hc2, hf2⟩ := bcell hb2; have z2 : w0.heap.size + 1 + 1 < w2.heap.size := zz hb2 (by first | assumption | (simp; done) | (simp; omega)); have y2 : w0.heap.size + 1 < w2.heap.size := (by omega); have x2 : w0.heap.size < w2.heap.size := (by omega))
    | (go_at_call 84; refine (D.out.call _).mono ?_; rintro e w3 ⟨rfl, hb3⟩; obtain ⟨hc3, hf3⟩ := bcell hb3; have z3 : w0.heap.size + 1 + 1 < w3.heap.size := zz hb3 (by first | assumption | (simp; done) | (simp; omega)); have y3 : w0.heap.size + 1 < w3.heap.size := (by omega); have x3 : w0.heap.size < w3.heap.size := (by omega))
    | (go_at_call 54; refine (F.out.call _).mono ?_; rintro e w4 ⟨rfl, hb4⟩; obtain ⟨hc4, hf4⟩ := bcell hb4; have z4 : w0.heap.size + 1 + 1 < w4.heap.size := zz hb4 (by first | assumption | (simp; done) | (simp; omega)); have y4 : w0.heap.size + 1 < w4.heap.size := (by omega); have x4 : w0.heap.size < w4.heap.size := (by omega)))
  exact bodyPost_ret (v := .tuple #[.agg #[.int .i64 a, .int .i64 b], .int .i64 c]) (by simp [results, Tryz.results77, go_sem, *]) rfl ⟨rfl, by repeat (first | exact Below.refl _ _ | apply ba | (refine bs ?_ (by first | (simp; done) | (simp; omega))) | (refine bt ?_ (by assumption)))⟩

end Go.Proofs
