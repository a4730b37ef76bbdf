/- The reference orders numbers and puts rows of them together. No condition beyond what the theorems state. -/
import Derived.Test.YtcmlfkoeajpliaaDoorLwAxWalks
import Derived.Deep.DeepMust
import Derived.Test.YtcmlfkoeajpliaaDoorRefOn
import Derived.Test.YtcmlfkoeajpliaaDoorRefWalk
namespace Go.Proofs.YtcmlfkoeajpliaaDoor
open Go.RowKit Go.Lib Go.Shelf
set_option maxRecDepth 100000
set_option maxHeartbeats 8000000
theorem inRef (A : Option Addr) (n c : Nat) (zs : List Int) (x : Int) (w : World) (hA : IR w A zs) (hn : zs.length = n) (hn6 : n ≤ 1048576) :
    Calls Tryd.prog 69 #[.slice A n c, .int .i64 x] w fun e w' => e = .returned (.bool (zs.contains x)) ∧ Below w.heap.size w w' := by
  have HA := Lib.hid hA; have HN := Lib.hid hn
  obtain ⟨r, hr⟩ : ∃ r, zs.contains x = r := ⟨_, rfl⟩
  rw [hr]
  have HR := Lib.hid hr
  clear hA hn hr
  go_enter Tryd.func69, Tryd.ntmps69
  go_wp2
  go_loopw [5] (fun s5 wx => ∃ i : Nat, s5 = .int .i64 (i : Int) ∧ i ≤ n ∧ Hid ((zs.take i).contains x = false) ∧ Below w.heap.size w wx) (fun s5 _ => n - (intOf s5).toNat)
  case atStart => exact ⟨0, rfl, by omega, Lib.hid (by simp), Below.refl _ _⟩
  case round =>
    obtain ⟨i, rfl, hi, hno, hB⟩ := hrel
    by_cases hlt : i < n
    · have g0 : decide ((i : Int) < (n : Int)) = true := by simp; omega
      have g1 : decide (i < n) = true := by simpa using hlt
      have hil : i < zs.length := by rw [HN.out]; exact hlt
      have hne : zs ≠ [] := by intro e; rw [e] at hil; simp at hil
      obtain ⟨ad, rfl, hca⟩ := HA.out.below hB hne
      have d0 := hca i _ (List.getElem?_eq_getElem hil)
      have hts : (zs.take (i + 1)).contains x = ((zs.take i).contains x || (x == zs[i]'hil)) := by
        rw [List.take_add_one, List.getElem?_eq_getElem hil]
        simp only [Option.toList_some, List.contains_eq_any_beq, List.any_append, List.any_cons, List.any_nil, Bool.or_false]
      have hmem : zs[i]'hil ∈ zs := List.getElem_mem hil
      obtain ⟨y, hy⟩ : ∃ y, zs[i]'hil = y := ⟨_, rfl⟩
      rw [hy] at d0 hts hmem
      clear hca hy
      by_cases he : y = x
      · subst he
        obtain rfl : r = true := by rw [← HR.out]; simpa using hmem
        have g2 : (y == y) = true := by simp
        clear hts hmem
        go_wp2
        go_ret
        exact ⟨rfl, hB⟩
      · have g2 : (y == x) = false := by simpa using he
        have HT := Lib.hid (by rw [hts, hno.out]; simpa using fun e => he e.symm : (zs.take (i + 1)).contains x = false)
        clear hts hmem he
        go_wp2
        go_roundw
        case rel => exact ⟨i + 1, by go_num, by omega, HT, hB⟩
        case measure => simp [intOf]; omega
    · obtain rfl : i = n := by omega
      have g0 : decide (((i : Nat) : Int) < ((i : Nat) : Int)) = false := by simp
      obtain rfl : r = false := by
        rw [← HR.out]
        have := hno.out
        rwa [List.take_of_length_le (by rw [HN.out]; omega)] at this
      go_wp2
      go_ret
      exact ⟨rfl, hB⟩
end Go.Proofs.YtcmlfkoeajpliaaDoor
namespace Go.Proofs.YtcmlfkoeajpliaaDoor
open Go.RowKit Go.Lib
set_option maxRecDepth 100000
set_option maxHeartbeats 8000000
theorem ins_ord {o : List Int} {x : Int} {k : Nat} (hs : o.Pairwise (· < ·)) (hk : k ≤ o.length) (h1 : ∀ j (hj : j < o.length), j < k → o[j]'hj < x) (h2 : ∀ hj : k < o.length, x < o[k]'hj) :
    (o.take k ++ x :: o.drop k).Pairwise (· < ·) := by
  have hp := List.pairwise_iff_getElem.1 hs
  refine List.pairwise_append.2 ⟨hs.sublist (List.take_sublist _ _), List.pairwise_cons.2 ⟨fun y hy => ?_, hs.sublist (List.drop_sublist _ _)⟩, fun a ha b hb => ?_⟩
  · obtain ⟨j, hj, rfl⟩ := List.mem_iff_getElem.1 hy
    rw [List.length_drop] at hj
    rw [List.getElem_drop]
    have hk' : k < o.length := by omega
    have h3 := h2 hk'
    rcases Nat.eq_zero_or_pos j with h0 | h0
    · subst h0; simpa using h3
    · have := hp k (k + j) hk' (by omega) (by omega); omega
  · obtain ⟨j, hj, rfl⟩ := List.mem_iff_getElem.1 ha
    rw [List.length_take] at hj
    rw [List.getElem_take]
    have h3 := h1 j (by omega) (by omega)
    rcases List.mem_cons.1 hb with rfl | hb
    · exact h3
    · obtain ⟨i, hi, rfl⟩ := List.mem_iff_getElem.1 hb
      rw [List.length_drop] at hi
      rw [List.getElem_drop]
      exact hp j (k + i) (by omega) (by omega) (by omega)
theorem ordZ_in {zs : List Int} {i : Nat} {x : Int} (hx : zs[i]? = some x) (h : (ordZ (zs.take i)).contains x = true) : ordZ (zs.take (i + 1)) = ordZ (zs.take i) := by
  obtain ⟨h1, h2⟩ := ordZ_both (zs.take i)
  refine ordZ_is h1 fun y => ?_
  rw [h2, List.take_add_one, hx]
  have hm : x ∈ zs.take i := (h2 x).1 (by simpa using h)
  simp only [Option.toList_some, List.mem_append, List.mem_singleton]
  constructor
  · exact .inl
  · rintro (h | rfl)
    · exact h
    · exact hm
theorem ordZ_ins {zs : List Int} {i k : Nat} {x : Int} (hx : zs[i]? = some x) (hk : k ≤ (ordZ (zs.take i)).length) (h1 : ∀ j (hj : j < (ordZ (zs.take i)).length), j < k → (ordZ (zs.take i))[j]'hj < x) (h2 : ∀ hj : k < (ordZ (zs.take i)).length, x < (ordZ (zs.take i))[k]'hj) :
    ordZ (zs.take (i + 1)) = (ordZ (zs.take i)).take k ++ x :: (ordZ (zs.take i)).drop k := by
  obtain ⟨q1, q2⟩ := ordZ_both (zs.take i)
  refine ordZ_is (ins_ord q1 hk h1 h2) fun y => ?_
  rw [List.take_add_one, hx]
  simp only [Option.toList_some, List.mem_append, List.mem_cons]
  rw [← q2 y]
  have e : y ∈ ordZ (zs.take i) ↔ y ∈ (ordZ (zs.take i)).take k ∨ y ∈ (ordZ (zs.take i)).drop k := by rw [← List.mem_append, List.take_append_drop]
  rw [e]
  constructor
  · rintro (h | h | h)
    · exact .inl (.inl h)
    · exact .inr (.inl h)
    · exact .inl (.inr h)
  · rintro ((h | h) | h)
    · exact .inl h
    · exact .inr (.inr h)
    · rcases h with h | h
      · exact .inr (.inl h)
      · nomatch h
theorem rowZ_len (zs : List Int) : (rowZ zs).length = zs.length := by unfold rowZ; rw [List.length_map]
theorem rowZ_app (a b : List Int) : rowZ (a ++ b) = rowZ a ++ rowZ b := by unfold rowZ; rw [List.map_append]
theorem rowZ_one (zs : List Int) : ∀ u ∈ rowZ zs, u.oneCell' = true := by
  intro u hu
  unfold rowZ at hu
  obtain ⟨x, _, rfl⟩ := List.mem_map.1 hu
  rfl
/-- A piece of a row of the call's own, as it is read. -/
theorem reads_take {w : World} {base n c k : Nat} {A : Option Addr} {o : List Int} (h : w.ownsRow base 3 1 (.slice A n c) n (rowZ o)) (hk : k ≤ n) : Reads w w.heap.size 1 A k (rowZ (o.take k)) := by
  have hl : o.length = n := by have := h.1; rw [rowZ_len] at this; omega
  refine ⟨by rw [rowZ_len, List.length_take]; omega, fun hk0 => ?_⟩
  obtain ⟨A0, c0, e0, _, hrd⟩ := own_rd h
  cases e0
  obtain ⟨ad, e, hb, hc⟩ := hrd.2 (by omega)
  refine ⟨ad, e, (own_lt h hb).2, fun j u hu => hc j u ?_⟩
  unfold rowZ at hu ⊢
  rw [List.getElem?_map, List.getElem?_take] at hu
  rw [List.getElem?_map]
  split at hu
  · exact hu
  · cases hu
theorem reads_drop {w : World} {base n c k : Nat} {ad : Addr} {o : List Int} (h : w.ownsRow base 3 1 (.slice (some ad) n c) n (rowZ o)) (hk : k ≤ n) : Reads w w.heap.size 1 (some (ad.add k)) (n - k) (rowZ (o.drop k)) := by
  have hl : o.length = n := by have := h.1; rw [rowZ_len] at this; omega
  refine ⟨by rw [rowZ_len, List.length_drop]; omega, fun hk0 => ?_⟩
  obtain ⟨A0, c0, e0, _, hrd⟩ := own_rd h
  cases e0
  obtain ⟨ad', e, hb, hc⟩ := hrd.2 (by omega)
  cases e
  refine ⟨_, rfl, by rw [block_of_add]; exact (own_lt h hb).2, fun j u hu => ?_⟩
  rw [Go.Deep.add_add]
  refine hc (k + j) u ?_
  unfold rowZ at hu ⊢
  rw [List.getElem?_map, List.getElem?_drop] at hu
  rw [List.getElem?_map]
  exact hu
end Go.Proofs.YtcmlfkoeajpliaaDoor
namespace Go.Proofs.YtcmlfkoeajpliaaDoor
open Go.RowKit Go.Lib
set_option maxRecDepth 100000
set_option maxHeartbeats 16000000
def RoAI (w0 : World) (Pa Pb : Option Addr) (n c m cl k i : Nat) (c1 c2 c6 c7 c8 c9 c10 c11 c12 c13 c14 c15 c16 c17 c18 c34 c35 c36 c37 c38 c39 c40 c41 c42 c43 c44 c45 c46 c47 c48 c49 c50 c51 c52 c53 : Value) (listed : Array Bool) (A : Act) (w : World) : Prop := ∃ (s19 s20 s21 s22 s23 s24 s25 s26 s27 s28 s29 s30 s31 s32 s33 : Value), A = { tmps := #[.slice Pb m cl, c1, c2, .slice Pa n c, .int .i64 (i : Int), .int .i64 (k : Int), c6, c7, c8, c9, c10, c11, c12, c13, c14, c15, c16, c17, c18, s19, s20, s21, s22, s23, s24, s25, s26, s27, s28, s29, s30, s31, s32, s33, c34, c35, c36, c37, c38, c39, c40, c41, c42, c43, c44, c45, c46, c47, c48, c49, c50, c51, c52, c53], defers := [] } ∧
  (listed.getD 0 false = true → s19 = .int .i64 (k : Int)) ∧
  (listed.getD 1 false = true → s20 = .slice Pa n c) ∧
  (listed.getD 2 false = true → s21 = .int .i64 (n : Int)) ∧
  (listed.getD 3 false = true → s22 = .bool false) ∧
  (listed.getD 4 false = true → s23 = .bool false) ∧
  (listed.getD 5 false = true → s24 = undef) ∧
  (listed.getD 6 false = true → s25 = undef) ∧
  (listed.getD 7 false = true → s26 = undef) ∧
  (listed.getD 8 false = true → s27 = undef) ∧
  (listed.getD 9 false = true → s28 = undef) ∧
  (listed.getD 10 false = true → s29 = undef) ∧
  (listed.getD 11 false = true → s30 = undef) ∧
  (listed.getD 12 false = true → s31 = undef) ∧
  (listed.getD 13 false = true → s32 = undef) ∧
  (listed.getD 14 false = true → s33 = .bool false) ∧
  Below w0.heap.size w0 w
set_option maxRecDepth 100000 in
set_option maxHeartbeats 16000000 in
theorem RoA_region (Pa Pb : Option Addr) (n c m cl k i : Nat) (x19 x20 x21 x22 x23 x24 x25 x26 x27 x28 x29 x30 x31 x32 x33 : Value) (c1 c2 c6 c7 c8 c9 c10 c11 c12 c13 c14 c15 c16 c17 c18 c34 c35 c36 c37 c38 c39 c40 c41 c42 c43 c44 c45 c46 c47 c48 c49 c50 c51 c52 c53 : Value) (w0 W : World) (Q : Exit → Act → World → Prop) (hb0 : Below w0.heap.size w0 W)  (_g0 : decide ((k : Int) < (n : Int)) = false) (g1 : decide (k < n) = false)
    (hQ : ∀ (w : World) , (True) → Below w0.heap.size w0 w → Q .normal { tmps := #[.slice Pb m cl, c1, c2, .slice Pa n c, .int .i64 (i : Int), .int .i64 (k : Int), c6, c7, c8, c9, c10, c11, c12, c13, c14, c15, c16, c17, c18, .int .i64 (k : Int), .slice Pa n c, .int .i64 (n : Int), .bool false, .bool false, undef, undef, undef, undef, undef, undef, undef, undef, undef, .bool false, c34, c35, c36, c37, c38, c39, c40, c41, c42, c43, c44, c45, c46, c47, c48, c49, c50, c51, c52, c53], defers := [] } w) :
    Code.wp Tryd.prog ((Tryd.f42.body.bind (regionOf 7)).getD .skip) Q { tmps := #[.slice Pb m cl, c1, c2, .slice Pa n c, .int .i64 (i : Int), .int .i64 (k : Int), c6, c7, c8, c9, c10, c11, c12, c13, c14, c15, c16, c17, c18, x19, x20, x21, x22, x23, x24, x25, x26, x27, x28, x29, x30, x31, x32, x33, c34, c35, c36, c37, c38, c39, c40, c41, c42, c43, c44, c45, c46, c47, c48, c49, c50, c51, c52, c53], defers := [] } W := by
  conv => arg 2; whnf
  refine wp_region_inv (by kernel_rfl) (by kernel_rfl) (RoAI w0 Pa Pb n c m cl k i c1 c2 c6 c7 c8 c9 c10 c11 c12 c13 c14 c15 c16 c17 c18 c34 c35 c36 c37 c38 c39 c40 c41 c42 c43 c44 c45 c46 c47 c48 c49 c50 c51 c52 c53) ?_ ?_ ?_
  · exact ⟨_, _, _, _, _, _, _, _, _, _, _, _, _, _, _, rfl, fun h => absurd h l0, fun h => absurd h l0, fun h => absurd h l0, fun h => absurd h l0, fun h => absurd h l0, fun h => absurd h l0, fun h => absurd h l0, fun h => absurd h l0, fun h => absurd h l0, fun h => absurd h l0, fun h => absurd h l0, fun h => absurd h l0, fun h => absurd h l0, fun h => absurd h l0, fun h => absurd h l0, bdr hb0⟩
  · intro i o listed A w hi ho hd hn hI
    unfold RoAI at hI
    obtain ⟨s19, hI⟩ := hI
    obtain ⟨s20, hI⟩ := hI
    obtain ⟨s21, hI⟩ := hI
    obtain ⟨s22, hI⟩ := hI
    obtain ⟨s23, hI⟩ := hI
    obtain ⟨s24, hI⟩ := hI
    obtain ⟨s25, hI⟩ := hI
    obtain ⟨s26, hI⟩ := hI
    obtain ⟨s27, hI⟩ := hI
    obtain ⟨s28, hI⟩ := hI
    obtain ⟨s29, hI⟩ := hI
    obtain ⟨s30, hI⟩ := hI
    obtain ⟨s31, hI⟩ := hI
    obtain ⟨s32, hI⟩ := hI
    obtain ⟨s33, hI⟩ := hI
    obtain ⟨rfl, hI⟩ := hI
    obtain ⟨F0, hI⟩ := hI
    obtain ⟨F1, hI⟩ := hI
    obtain ⟨F2, hI⟩ := hI
    obtain ⟨F3, hI⟩ := hI
    obtain ⟨F4, hI⟩ := hI
    obtain ⟨F5, hI⟩ := hI
    obtain ⟨F6, hI⟩ := hI
    obtain ⟨F7, hI⟩ := hI
    obtain ⟨F8, hI⟩ := hI
    obtain ⟨F9, hI⟩ := hI
    obtain ⟨F10, hI⟩ := hI
    obtain ⟨F11, hI⟩ := hI
    obtain ⟨F12, hI⟩ := hI
    obtain ⟨F13, hI⟩ := hI
    obtain ⟨F14, hI⟩ := hI
    have F15 := hI; clear hI
    have hi' : i < 15 := hi
    clear hi
    rcases (by omega : i = 0 ∨ i = 1 ∨ i = 2 ∨ i = 3 ∨ i = 4 ∨ i = 5 ∨ i = 6 ∨ i = 7 ∨ i = 8 ∨ i = 9 ∨ i = 10 ∨ i = 11 ∨ i = 12 ∨ i = 13 ∨ i = 14) with rfl | rfl | rfl | rfl | rfl | rfl | rfl | rfl | rfl | rfl | rfl | rfl | rfl | rfl | rfl
    · simp only [List.getElem?_toArray, List.getElem?_cons_zero, Option.some.injEq] at ho
      subst ho
      refine wpOp_step rfl (fun K hK => ?_)
      go_simp
      refine hK _ _ ?_
      exact ⟨_, _, _, _, _, _, _, _, _, _, _, _, _, _, _, rfl, fun _ => rfl, lk F1, lk F2, lk F3, lk F4, lk F5, lk F6, lk F7, lk F8, lk F9, lk F10, lk F11, lk F12, lk F13, lk F14, F15⟩
    · simp only [List.getElem?_toArray, List.getElem?_cons_zero, List.getElem?_cons_succ, Option.some.injEq] at ho
      subst ho
      refine wpOp_step rfl (fun K hK => ?_)
      go_simp
      refine hK _ _ ?_
      exact ⟨_, _, _, _, _, _, _, _, _, _, _, _, _, _, _, rfl, lk F0, fun _ => rfl, lk F2, lk F3, lk F4, lk F5, lk F6, lk F7, lk F8, lk F9, lk F10, lk F11, lk F12, lk F13, lk F14, F15⟩
    · simp only [List.getElem?_toArray, List.getElem?_cons_zero, List.getElem?_cons_succ, Option.some.injEq] at ho
      subst ho
      obtain rfl := F1 (hd ⟨1, .data⟩ (by simp) rfl)
      refine wpOp_step rfl (fun K hK => ?_)
      go_simp
      refine hK _ _ ?_
      exact ⟨_, _, _, _, _, _, _, _, _, _, _, _, _, _, _, rfl, lk F0, lk F1, fun _ => rfl, lk F3, lk F4, lk F5, lk F6, lk F7, lk F8, lk F9, lk F10, lk F11, lk F12, lk F13, lk F14, F15⟩
    · simp only [List.getElem?_toArray, List.getElem?_cons_zero, List.getElem?_cons_succ, Option.some.injEq] at ho
      subst ho
      obtain rfl := F0 (hd ⟨0, .data⟩ (by simp) rfl)
      obtain rfl := F2 (hd ⟨2, .data⟩ (by simp) rfl)
      refine wpOp_step rfl (fun K hK => ?_)
      go_simp
      refine hK _ _ ?_
      exact ⟨_, _, _, _, _, _, _, _, _, _, _, _, _, _, _, rfl, lk F0, lk F1, lk F2, fun _ => rfl, lk F4, lk F5, lk F6, lk F7, lk F8, lk F9, lk F10, lk F11, lk F12, lk F13, lk F14, F15⟩
    · simp only [List.getElem?_toArray, List.getElem?_cons_zero, List.getElem?_cons_succ, Option.some.injEq] at ho
      subst ho
      obtain rfl := F3 (hd ⟨3, .data⟩ (by simp) rfl)
      refine wpOp_step rfl (fun K hK => ?_)
      go_simp
      refine hK _ _ ?_
      exact ⟨_, _, _, _, _, _, _, _, _, _, _, _, _, _, _, rfl, lk F0, lk F1, lk F2, lk F3, fun _ => rfl, lk F5, lk F6, lk F7, lk F8, lk F9, lk F10, lk F11, lk F12, lk F13, lk F14, F15⟩
    · simp only [List.getElem?_toArray, List.getElem?_cons_zero, List.getElem?_cons_succ, Option.some.injEq] at ho
      subst ho
      obtain rfl := F4 (hd ⟨4, .guard⟩ (by simp) rfl)
      refine wpOp_step rfl (fun K hK => ?_)
      go_simp
      refine hK _ _ ?_
      exact ⟨_, _, _, _, _, _, _, _, _, _, _, _, _, _, _, rfl, lk F0, lk F1, lk F2, lk F3, lk F4, fun _ => rfl, lk F6, lk F7, lk F8, lk F9, lk F10, lk F11, lk F12, lk F13, lk F14, F15⟩
    · simp only [List.getElem?_toArray, List.getElem?_cons_zero, List.getElem?_cons_succ, Option.some.injEq] at ho
      subst ho
      obtain rfl := F4 (hd ⟨4, .guard⟩ (by simp) rfl)
      refine wpOp_step rfl (fun K hK => ?_)
      go_simp
      refine hK _ _ ?_
      exact ⟨_, _, _, _, _, _, _, _, _, _, _, _, _, _, _, rfl, lk F0, lk F1, lk F2, lk F3, lk F4, lk F5, fun _ => rfl, lk F7, lk F8, lk F9, lk F10, lk F11, lk F12, lk F13, lk F14, F15⟩
    · simp only [List.getElem?_toArray, List.getElem?_cons_zero, List.getElem?_cons_succ, Option.some.injEq] at ho
      subst ho
      obtain rfl := F4 (hd ⟨4, .guard⟩ (by simp) rfl)
      refine wpOp_step rfl (fun K hK => ?_)
      go_simp
      refine hK _ _ ?_
      exact ⟨_, _, _, _, _, _, _, _, _, _, _, _, _, _, _, rfl, lk F0, lk F1, lk F2, lk F3, lk F4, lk F5, lk F6, fun _ => rfl, lk F8, lk F9, lk F10, lk F11, lk F12, lk F13, lk F14, F15⟩
    · simp only [List.getElem?_toArray, List.getElem?_cons_zero, List.getElem?_cons_succ, Option.some.injEq] at ho
      subst ho
      obtain rfl := F4 (hd ⟨4, .guard⟩ (by simp) rfl)
      refine wpOp_step rfl (fun K hK => ?_)
      go_simp
      refine hK _ _ ?_
      exact ⟨_, _, _, _, _, _, _, _, _, _, _, _, _, _, _, rfl, lk F0, lk F1, lk F2, lk F3, lk F4, lk F5, lk F6, lk F7, fun _ => rfl, lk F9, lk F10, lk F11, lk F12, lk F13, lk F14, F15⟩
    · simp only [List.getElem?_toArray, List.getElem?_cons_zero, List.getElem?_cons_succ, Option.some.injEq] at ho
      subst ho
      obtain rfl := F4 (hd ⟨4, .guard⟩ (by simp) rfl)
      refine wpOp_step rfl (fun K hK => ?_)
      go_simp
      refine hK _ _ ?_
      exact ⟨_, _, _, _, _, _, _, _, _, _, _, _, _, _, _, rfl, lk F0, lk F1, lk F2, lk F3, lk F4, lk F5, lk F6, lk F7, lk F8, fun _ => rfl, lk F10, lk F11, lk F12, lk F13, lk F14, F15⟩
    · simp only [List.getElem?_toArray, List.getElem?_cons_zero, List.getElem?_cons_succ, Option.some.injEq] at ho
      subst ho
      obtain rfl := F4 (hd ⟨4, .guard⟩ (by simp) rfl)
      refine wpOp_step rfl (fun K hK => ?_)
      go_simp
      refine hK _ _ ?_
      exact ⟨_, _, _, _, _, _, _, _, _, _, _, _, _, _, _, rfl, lk F0, lk F1, lk F2, lk F3, lk F4, lk F5, lk F6, lk F7, lk F8, lk F9, fun _ => rfl, lk F11, lk F12, lk F13, lk F14, F15⟩
    · simp only [List.getElem?_toArray, List.getElem?_cons_zero, List.getElem?_cons_succ, Option.some.injEq] at ho
      subst ho
      obtain rfl := F4 (hd ⟨4, .guard⟩ (by simp) rfl)
      refine wpOp_step rfl (fun K hK => ?_)
      go_simp
      refine hK _ _ ?_
      exact ⟨_, _, _, _, _, _, _, _, _, _, _, _, _, _, _, rfl, lk F0, lk F1, lk F2, lk F3, lk F4, lk F5, lk F6, lk F7, lk F8, lk F9, lk F10, fun _ => rfl, lk F12, lk F13, lk F14, F15⟩
    · simp only [List.getElem?_toArray, List.getElem?_cons_zero, List.getElem?_cons_succ, Option.some.injEq] at ho
      subst ho
      obtain rfl := F4 (hd ⟨4, .guard⟩ (by simp) rfl)
      refine wpOp_step rfl (fun K hK => ?_)
      go_simp
      refine hK _ _ ?_
      exact ⟨_, _, _, _, _, _, _, _, _, _, _, _, _, _, _, rfl, lk F0, lk F1, lk F2, lk F3, lk F4, lk F5, lk F6, lk F7, lk F8, lk F9, lk F10, lk F11, fun _ => rfl, lk F13, lk F14, F15⟩
    · simp only [List.getElem?_toArray, List.getElem?_cons_zero, List.getElem?_cons_succ, Option.some.injEq] at ho
      subst ho
      obtain rfl := F4 (hd ⟨4, .guard⟩ (by simp) rfl)
      refine wpOp_step rfl (fun K hK => ?_)
      go_simp
      refine hK _ _ ?_
      exact ⟨_, _, _, _, _, _, _, _, _, _, _, _, _, _, _, rfl, lk F0, lk F1, lk F2, lk F3, lk F4, lk F5, lk F6, lk F7, lk F8, lk F9, lk F10, lk F11, lk F12, fun _ => rfl, lk F14, F15⟩
    · simp only [List.getElem?_toArray, List.getElem?_cons_zero, List.getElem?_cons_succ, Option.some.injEq] at ho
      subst ho
      obtain rfl := F4 (hd ⟨4, .data⟩ (by simp) rfl)
      refine wpOp_step rfl (fun K hK => ?_)
      go_simp
      refine hK _ _ ?_
      exact ⟨_, _, _, _, _, _, _, _, _, _, _, _, _, _, _, rfl, lk F0, lk F1, lk F2, lk F3, lk F4, lk F5, lk F6, lk F7, lk F8, lk F9, lk F10, lk F11, lk F12, lk F13, fun _ => rfl, F15⟩
  · intro listed A w hall hI
    unfold RoAI at hI
    obtain ⟨s19, hI⟩ := hI
    obtain ⟨s20, hI⟩ := hI
    obtain ⟨s21, hI⟩ := hI
    obtain ⟨s22, hI⟩ := hI
    obtain ⟨s23, hI⟩ := hI
    obtain ⟨s24, hI⟩ := hI
    obtain ⟨s25, hI⟩ := hI
    obtain ⟨s26, hI⟩ := hI
    obtain ⟨s27, hI⟩ := hI
    obtain ⟨s28, hI⟩ := hI
    obtain ⟨s29, hI⟩ := hI
    obtain ⟨s30, hI⟩ := hI
    obtain ⟨s31, hI⟩ := hI
    obtain ⟨s32, hI⟩ := hI
    obtain ⟨s33, hI⟩ := hI
    obtain ⟨rfl, hI⟩ := hI
    obtain ⟨F0, hI⟩ := hI
    obtain ⟨F1, hI⟩ := hI
    obtain ⟨F2, hI⟩ := hI
    obtain ⟨F3, hI⟩ := hI
    obtain ⟨F4, hI⟩ := hI
    obtain ⟨F5, hI⟩ := hI
    obtain ⟨F6, hI⟩ := hI
    obtain ⟨F7, hI⟩ := hI
    obtain ⟨F8, hI⟩ := hI
    obtain ⟨F9, hI⟩ := hI
    obtain ⟨F10, hI⟩ := hI
    obtain ⟨F11, hI⟩ := hI
    obtain ⟨F12, hI⟩ := hI
    obtain ⟨F13, hI⟩ := hI
    obtain ⟨F14, hI⟩ := hI
    have F15 := hI; clear hI
    obtain rfl := F0 (hall 0 (by decide))
    obtain rfl := F1 (hall 1 (by decide))
    obtain rfl := F2 (hall 2 (by decide))
    obtain rfl := F3 (hall 3 (by decide))
    obtain rfl := F4 (hall 4 (by decide))
    obtain rfl := F5 (hall 5 (by decide))
    obtain rfl := F6 (hall 6 (by decide))
    obtain rfl := F7 (hall 7 (by decide))
    obtain rfl := F8 (hall 8 (by decide))
    obtain rfl := F9 (hall 9 (by decide))
    obtain rfl := F10 (hall 10 (by decide))
    obtain rfl := F11 (hall 11 (by decide))
    obtain rfl := F12 (hall 12 (by decide))
    obtain rfl := F13 (hall 13 (by decide))
    obtain rfl := F14 (hall 14 (by decide))
    have HB := F15
    exact hQ _ trivial HB
def RoBI (w0 : World) (ad al : Addr) (n c m cl k i : Nat) (x y : Int) (b : Bool) (c1 c2 c6 c7 c8 c9 c10 c11 c12 c13 c14 c15 c16 c17 c18 c34 c35 c36 c37 c38 c39 c40 c41 c42 c43 c44 c45 c46 c47 c48 c49 c50 c51 c52 c53 : Value) (listed : Array Bool) (A : Act) (w : World) : Prop := ∃ (s19 s20 s21 s22 s23 s24 s25 s26 s27 s28 s29 s30 s31 s32 s33 : Value), A = { tmps := #[.slice (some al) m cl, c1, c2, .slice (some ad) n c, .int .i64 (i : Int), .int .i64 (k : Int), c6, c7, c8, c9, c10, c11, c12, c13, c14, c15, c16, c17, c18, s19, s20, s21, s22, s23, s24, s25, s26, s27, s28, s29, s30, s31, s32, s33, c34, c35, c36, c37, c38, c39, c40, c41, c42, c43, c44, c45, c46, c47, c48, c49, c50, c51, c52, c53], defers := [] } ∧
  (listed.getD 0 false = true → s19 = .int .i64 (k : Int)) ∧
  (listed.getD 1 false = true → s20 = .slice (some ad) n c) ∧
  (listed.getD 2 false = true → s21 = .int .i64 (n : Int)) ∧
  (listed.getD 3 false = true → s22 = .bool true) ∧
  (listed.getD 4 false = true → s23 = .bool true) ∧
  (listed.getD 5 false = true → s24 = .slice (some ad) n c) ∧
  (listed.getD 6 false = true → s25 = .int .i64 (k : Int)) ∧
  (listed.getD 7 false = true → s26 = .pointer (some (ad.add k))) ∧
  (listed.getD 8 false = true → s27 = .int .i64 x) ∧
  (listed.getD 9 false = true → s28 = .slice (some al) m cl) ∧
  (listed.getD 10 false = true → s29 = .int .i64 (i : Int)) ∧
  (listed.getD 11 false = true → s30 = .pointer (some (al.add i))) ∧
  (listed.getD 12 false = true → s31 = .int .i64 y) ∧
  (listed.getD 13 false = true → s32 = .bool b) ∧
  (listed.getD 14 false = true → s33 = .bool b) ∧
  Below w0.heap.size w0 w ∧
  w.cell? (ad.add k) = some (.int .i64 x) ∧
  w.cell? (al.add i) = some (.int .i64 y)
set_option maxRecDepth 100000 in
set_option maxHeartbeats 16000000 in
theorem RoB_region (ad al : Addr) (n c m cl k i : Nat) (x y : Int) (b : Bool) (x19 x20 x21 x22 x23 x24 x25 x26 x27 x28 x29 x30 x31 x32 x33 : Value) (c1 c2 c6 c7 c8 c9 c10 c11 c12 c13 c14 c15 c16 c17 c18 c34 c35 c36 c37 c38 c39 c40 c41 c42 c43 c44 c45 c46 c47 c48 c49 c50 c51 c52 c53 : Value) (w0 W : World) (Q : Exit → Act → World → Prop) (hb0 : Below w0.heap.size w0 W) (C0 : W.cell? (ad.add k) = some (.int .i64 x)) (C1 : W.cell? (al.add i) = some (.int .i64 y)) (hk : k < n) (hi : i < m) (_hn : n ≤ 1048576) (_hm : m ≤ 1048576) (_g0 : decide ((k : Int) < (n : Int)) = true) (_g1 : decide (k < n) = true) (g2 : decide (x < y) = b)
    (hQ : ∀ (w : World) , (True) → Below w0.heap.size w0 w → Q .normal { tmps := #[.slice (some al) m cl, c1, c2, .slice (some ad) n c, .int .i64 (i : Int), .int .i64 (k : Int), c6, c7, c8, c9, c10, c11, c12, c13, c14, c15, c16, c17, c18, .int .i64 (k : Int), .slice (some ad) n c, .int .i64 (n : Int), .bool true, .bool true, .slice (some ad) n c, .int .i64 (k : Int), .pointer (some (ad.add k)), .int .i64 x, .slice (some al) m cl, .int .i64 (i : Int), .pointer (some (al.add i)), .int .i64 y, .bool b, .bool b, c34, c35, c36, c37, c38, c39, c40, c41, c42, c43, c44, c45, c46, c47, c48, c49, c50, c51, c52, c53], defers := [] } w) :
    Code.wp Tryd.prog ((Tryd.f42.body.bind (regionOf 7)).getD .skip) Q { tmps := #[.slice (some al) m cl, c1, c2, .slice (some ad) n c, .int .i64 (i : Int), .int .i64 (k : Int), c6, c7, c8, c9, c10, c11, c12, c13, c14, c15, c16, c17, c18, x19, x20, x21, x22, x23, x24, x25, x26, x27, x28, x29, x30, x31, x32, x33, c34, c35, c36, c37, c38, c39, c40, c41, c42, c43, c44, c45, c46, c47, c48, c49, c50, c51, c52, c53], defers := [] } W := by
  conv => arg 2; whnf
  refine wp_region_inv (by kernel_rfl) (by kernel_rfl) (RoBI w0 ad al n c m cl k i x y b c1 c2 c6 c7 c8 c9 c10 c11 c12 c13 c14 c15 c16 c17 c18 c34 c35 c36 c37 c38 c39 c40 c41 c42 c43 c44 c45 c46 c47 c48 c49 c50 c51 c52 c53) ?_ ?_ ?_
  · exact ⟨_, _, _, _, _, _, _, _, _, _, _, _, _, _, _, rfl, fun h => absurd h l0, fun h => absurd h l0, fun h => absurd h l0, fun h => absurd h l0, fun h => absurd h l0, fun h => absurd h l0, fun h => absurd h l0, fun h => absurd h l0, fun h => absurd h l0, fun h => absurd h l0, fun h => absurd h l0, fun h => absurd h l0, fun h => absurd h l0, fun h => absurd h l0, fun h => absurd h l0, bdr hb0, C0, C1⟩
  · intro i o listed A w hi ho hd hn hI
    unfold RoBI at hI
    obtain ⟨s19, hI⟩ := hI
    obtain ⟨s20, hI⟩ := hI
    obtain ⟨s21, hI⟩ := hI
    obtain ⟨s22, hI⟩ := hI
    obtain ⟨s23, hI⟩ := hI
    obtain ⟨s24, hI⟩ := hI
    obtain ⟨s25, hI⟩ := hI
    obtain ⟨s26, hI⟩ := hI
    obtain ⟨s27, hI⟩ := hI
    obtain ⟨s28, hI⟩ := hI
    obtain ⟨s29, hI⟩ := hI
    obtain ⟨s30, hI⟩ := hI
    obtain ⟨s31, hI⟩ := hI
    obtain ⟨s32, hI⟩ := hI
    obtain ⟨s33, hI⟩ := hI
    obtain ⟨rfl, hI⟩ := hI
    obtain ⟨F0, hI⟩ := hI
    obtain ⟨F1, hI⟩ := hI
    obtain ⟨F2, hI⟩ := hI
    obtain ⟨F3, hI⟩ := hI
    obtain ⟨F4, hI⟩ := hI
    obtain ⟨F5, hI⟩ := hI
    obtain ⟨F6, hI⟩ := hI
    obtain ⟨F7, hI⟩ := hI
    obtain ⟨F8, hI⟩ := hI
    obtain ⟨F9, hI⟩ := hI
    obtain ⟨F10, hI⟩ := hI
    obtain ⟨F11, hI⟩ := hI
    obtain ⟨F12, hI⟩ := hI
    obtain ⟨F13, hI⟩ := hI
    obtain ⟨F14, hI⟩ := hI
    obtain ⟨F15, hI⟩ := hI
    obtain ⟨F16, hI⟩ := hI
    have F17 := hI; clear hI
    have hi' : i < 15 := hi
    clear hi
    rcases (by omega : i = 0 ∨ i = 1 ∨ i = 2 ∨ i = 3 ∨ i = 4 ∨ i = 5 ∨ i = 6 ∨ i = 7 ∨ i = 8 ∨ i = 9 ∨ i = 10 ∨ i = 11 ∨ i = 12 ∨ i = 13 ∨ i = 14) with rfl | rfl | rfl | rfl | rfl | rfl | rfl | rfl | rfl | rfl | rfl | rfl | rfl | rfl | rfl
    · simp only [List.getElem?_toArray, List.getElem?_cons_zero, Option.some.injEq] at ho
      subst ho
      refine wpOp_step rfl (fun K hK => ?_)
      go_simp
      refine hK _ _ ?_
      exact ⟨_, _, _, _, _, _, _, _, _, _, _, _, _, _, _, rfl, fun _ => rfl, lk F1, lk F2, lk F3, lk F4, lk F5, lk F6, lk F7, lk F8, lk F9, lk F10, lk F11, lk F12, lk F13, lk F14, F15, F16, F17⟩
    · simp only [List.getElem?_toArray, List.getElem?_cons_zero, List.getElem?_cons_succ, Option.some.injEq] at ho
      subst ho
      refine wpOp_step rfl (fun K hK => ?_)
      go_simp
      refine hK _ _ ?_
      exact ⟨_, _, _, _, _, _, _, _, _, _, _, _, _, _, _, rfl, lk F0, fun _ => rfl, lk F2, lk F3, lk F4, lk F5, lk F6, lk F7, lk F8, lk F9, lk F10, lk F11, lk F12, lk F13, lk F14, F15, F16, F17⟩
    · simp only [List.getElem?_toArray, List.getElem?_cons_zero, List.getElem?_cons_succ, Option.some.injEq] at ho
      subst ho
      obtain rfl := F1 (hd ⟨1, .data⟩ (by simp) rfl)
      refine wpOp_step rfl (fun K hK => ?_)
      go_simp
      refine hK _ _ ?_
      exact ⟨_, _, _, _, _, _, _, _, _, _, _, _, _, _, _, rfl, lk F0, lk F1, fun _ => rfl, lk F3, lk F4, lk F5, lk F6, lk F7, lk F8, lk F9, lk F10, lk F11, lk F12, lk F13, lk F14, F15, F16, F17⟩
    · simp only [List.getElem?_toArray, List.getElem?_cons_zero, List.getElem?_cons_succ, Option.some.injEq] at ho
      subst ho
      obtain rfl := F0 (hd ⟨0, .data⟩ (by simp) rfl)
      obtain rfl := F2 (hd ⟨2, .data⟩ (by simp) rfl)
      refine wpOp_step rfl (fun K hK => ?_)
      go_simp
      refine hK _ _ ?_
      exact ⟨_, _, _, _, _, _, _, _, _, _, _, _, _, _, _, rfl, lk F0, lk F1, lk F2, fun _ => rfl, lk F4, lk F5, lk F6, lk F7, lk F8, lk F9, lk F10, lk F11, lk F12, lk F13, lk F14, F15, F16, F17⟩
    · simp only [List.getElem?_toArray, List.getElem?_cons_zero, List.getElem?_cons_succ, Option.some.injEq] at ho
      subst ho
      obtain rfl := F3 (hd ⟨3, .data⟩ (by simp) rfl)
      refine wpOp_step rfl (fun K hK => ?_)
      go_simp
      refine hK _ _ ?_
      exact ⟨_, _, _, _, _, _, _, _, _, _, _, _, _, _, _, rfl, lk F0, lk F1, lk F2, lk F3, fun _ => rfl, lk F5, lk F6, lk F7, lk F8, lk F9, lk F10, lk F11, lk F12, lk F13, lk F14, F15, F16, F17⟩
    · simp only [List.getElem?_toArray, List.getElem?_cons_zero, List.getElem?_cons_succ, Option.some.injEq] at ho
      subst ho
      obtain rfl := F4 (hd ⟨4, .guard⟩ (by simp) rfl)
      refine wpOp_step rfl (fun K hK => ?_)
      go_simp
      refine hK _ _ ?_
      exact ⟨_, _, _, _, _, _, _, _, _, _, _, _, _, _, _, rfl, lk F0, lk F1, lk F2, lk F3, lk F4, fun _ => rfl, lk F6, lk F7, lk F8, lk F9, lk F10, lk F11, lk F12, lk F13, lk F14, F15, F16, F17⟩
    · simp only [List.getElem?_toArray, List.getElem?_cons_zero, List.getElem?_cons_succ, Option.some.injEq] at ho
      subst ho
      obtain rfl := F4 (hd ⟨4, .guard⟩ (by simp) rfl)
      refine wpOp_step rfl (fun K hK => ?_)
      go_simp
      refine hK _ _ ?_
      exact ⟨_, _, _, _, _, _, _, _, _, _, _, _, _, _, _, rfl, lk F0, lk F1, lk F2, lk F3, lk F4, lk F5, fun _ => rfl, lk F7, lk F8, lk F9, lk F10, lk F11, lk F12, lk F13, lk F14, F15, F16, F17⟩
    · simp only [List.getElem?_toArray, List.getElem?_cons_zero, List.getElem?_cons_succ, Option.some.injEq] at ho
      subst ho
      obtain rfl := F5 (hd ⟨5, .data⟩ (by simp) rfl)
      obtain rfl := F6 (hd ⟨6, .data⟩ (by simp) rfl)
      obtain rfl := F4 (hd ⟨4, .guard⟩ (by simp) rfl)
      refine wpOp_step rfl (fun K hK => ?_)
      go_simp
      refine hK _ _ ?_
      exact ⟨_, _, _, _, _, _, _, _, _, _, _, _, _, _, _, rfl, lk F0, lk F1, lk F2, lk F3, lk F4, lk F5, lk F6, fun _ => rfl, lk F8, lk F9, lk F10, lk F11, lk F12, lk F13, lk F14, F15, F16, F17⟩
    · simp only [List.getElem?_toArray, List.getElem?_cons_zero, List.getElem?_cons_succ, Option.some.injEq] at ho
      subst ho
      obtain rfl := F7 (hd ⟨7, .data⟩ (by simp) rfl)
      obtain rfl := F4 (hd ⟨4, .guard⟩ (by simp) rfl)
      have h0 := F16; have h1 := F17
      refine wpOp_step rfl (fun K hK => ?_)
      go_simp
      refine hK _ _ ?_
      exact ⟨_, _, _, _, _, _, _, _, _, _, _, _, _, _, _, rfl, lk F0, lk F1, lk F2, lk F3, lk F4, lk F5, lk F6, lk F7, fun _ => rfl, lk F9, lk F10, lk F11, lk F12, lk F13, lk F14, F15, F16, F17⟩
    · simp only [List.getElem?_toArray, List.getElem?_cons_zero, List.getElem?_cons_succ, Option.some.injEq] at ho
      subst ho
      obtain rfl := F4 (hd ⟨4, .guard⟩ (by simp) rfl)
      refine wpOp_step rfl (fun K hK => ?_)
      go_simp
      refine hK _ _ ?_
      exact ⟨_, _, _, _, _, _, _, _, _, _, _, _, _, _, _, rfl, lk F0, lk F1, lk F2, lk F3, lk F4, lk F5, lk F6, lk F7, lk F8, fun _ => rfl, lk F10, lk F11, lk F12, lk F13, lk F14, F15, F16, F17⟩
    · simp only [List.getElem?_toArray, List.getElem?_cons_zero, List.getElem?_cons_succ, Option.some.injEq] at ho
      subst ho
      obtain rfl := F4 (hd ⟨4, .guard⟩ (by simp) rfl)
      refine wpOp_step rfl (fun K hK => ?_)
      go_simp
      refine hK _ _ ?_
      exact ⟨_, _, _, _, _, _, _, _, _, _, _, _, _, _, _, rfl, lk F0, lk F1, lk F2, lk F3, lk F4, lk F5, lk F6, lk F7, lk F8, lk F9, fun _ => rfl, lk F11, lk F12, lk F13, lk F14, F15, F16, F17⟩
    · simp only [List.getElem?_toArray, List.getElem?_cons_zero, List.getElem?_cons_succ, Option.some.injEq] at ho
      subst ho
      obtain rfl := F9 (hd ⟨9, .data⟩ (by simp) rfl)
      obtain rfl := F10 (hd ⟨10, .data⟩ (by simp) rfl)
      obtain rfl := F4 (hd ⟨4, .guard⟩ (by simp) rfl)
      refine wpOp_step rfl (fun K hK => ?_)
      go_simp
      refine hK _ _ ?_
      exact ⟨_, _, _, _, _, _, _, _, _, _, _, _, _, _, _, rfl, lk F0, lk F1, lk F2, lk F3, lk F4, lk F5, lk F6, lk F7, lk F8, lk F9, lk F10, fun _ => rfl, lk F12, lk F13, lk F14, F15, F16, F17⟩
    · simp only [List.getElem?_toArray, List.getElem?_cons_zero, List.getElem?_cons_succ, Option.some.injEq] at ho
      subst ho
      obtain rfl := F11 (hd ⟨11, .data⟩ (by simp) rfl)
      obtain rfl := F4 (hd ⟨4, .guard⟩ (by simp) rfl)
      have h0 := F16; have h1 := F17
      refine wpOp_step rfl (fun K hK => ?_)
      go_simp
      refine hK _ _ ?_
      exact ⟨_, _, _, _, _, _, _, _, _, _, _, _, _, _, _, rfl, lk F0, lk F1, lk F2, lk F3, lk F4, lk F5, lk F6, lk F7, lk F8, lk F9, lk F10, lk F11, fun _ => rfl, lk F13, lk F14, F15, F16, F17⟩
    · simp only [List.getElem?_toArray, List.getElem?_cons_zero, List.getElem?_cons_succ, Option.some.injEq] at ho
      subst ho
      obtain rfl := F8 (hd ⟨8, .data⟩ (by simp) rfl)
      obtain rfl := F12 (hd ⟨12, .data⟩ (by simp) rfl)
      obtain rfl := F4 (hd ⟨4, .guard⟩ (by simp) rfl)
      refine wpOp_step rfl (fun K hK => ?_)
      go_simp
      refine hK _ _ ?_
      exact ⟨_, _, _, _, _, _, _, _, _, _, _, _, _, _, _, rfl, lk F0, lk F1, lk F2, lk F3, lk F4, lk F5, lk F6, lk F7, lk F8, lk F9, lk F10, lk F11, lk F12, fun _ => rfl, lk F14, F15, F16, F17⟩
    · simp only [List.getElem?_toArray, List.getElem?_cons_zero, List.getElem?_cons_succ, Option.some.injEq] at ho
      subst ho
      obtain rfl := F4 (hd ⟨4, .data⟩ (by simp) rfl)
      obtain rfl := F13 (hd ⟨13, .data⟩ (by simp) rfl)
      refine wpOp_step rfl (fun K hK => ?_)
      go_simp
      refine hK _ _ ?_
      exact ⟨_, _, _, _, _, _, _, _, _, _, _, _, _, _, _, rfl, lk F0, lk F1, lk F2, lk F3, lk F4, lk F5, lk F6, lk F7, lk F8, lk F9, lk F10, lk F11, lk F12, lk F13, fun _ => rfl, F15, F16, F17⟩
  · intro listed A w hall hI
    unfold RoBI at hI
    obtain ⟨s19, hI⟩ := hI
    obtain ⟨s20, hI⟩ := hI
    obtain ⟨s21, hI⟩ := hI
    obtain ⟨s22, hI⟩ := hI
    obtain ⟨s23, hI⟩ := hI
    obtain ⟨s24, hI⟩ := hI
    obtain ⟨s25, hI⟩ := hI
    obtain ⟨s26, hI⟩ := hI
    obtain ⟨s27, hI⟩ := hI
    obtain ⟨s28, hI⟩ := hI
    obtain ⟨s29, hI⟩ := hI
    obtain ⟨s30, hI⟩ := hI
    obtain ⟨s31, hI⟩ := hI
    obtain ⟨s32, hI⟩ := hI
    obtain ⟨s33, hI⟩ := hI
    obtain ⟨rfl, hI⟩ := hI
    obtain ⟨F0, hI⟩ := hI
    obtain ⟨F1, hI⟩ := hI
    obtain ⟨F2, hI⟩ := hI
    obtain ⟨F3, hI⟩ := hI
    obtain ⟨F4, hI⟩ := hI
    obtain ⟨F5, hI⟩ := hI
    obtain ⟨F6, hI⟩ := hI
    obtain ⟨F7, hI⟩ := hI
    obtain ⟨F8, hI⟩ := hI
    obtain ⟨F9, hI⟩ := hI
    obtain ⟨F10, hI⟩ := hI
    obtain ⟨F11, hI⟩ := hI
    obtain ⟨F12, hI⟩ := hI
    obtain ⟨F13, hI⟩ := hI
    obtain ⟨F14, hI⟩ := hI
    obtain ⟨F15, hI⟩ := hI
    obtain ⟨F16, hI⟩ := hI
    have F17 := hI; clear hI
    obtain rfl := F0 (hall 0 (by decide))
    obtain rfl := F1 (hall 1 (by decide))
    obtain rfl := F2 (hall 2 (by decide))
    obtain rfl := F3 (hall 3 (by decide))
    obtain rfl := F4 (hall 4 (by decide))
    obtain rfl := F5 (hall 5 (by decide))
    obtain rfl := F6 (hall 6 (by decide))
    obtain rfl := F7 (hall 7 (by decide))
    obtain rfl := F8 (hall 8 (by decide))
    obtain rfl := F9 (hall 9 (by decide))
    obtain rfl := F10 (hall 10 (by decide))
    obtain rfl := F11 (hall 11 (by decide))
    obtain rfl := F12 (hall 12 (by decide))
    obtain rfl := F13 (hall 13 (by decide))
    obtain rfl := F14 (hall 14 (by decide))
    have HB := F15
    have Q0 := F16
    have Q1 := F17
    exact hQ _ trivial HB
theorem place_region (A : Option Addr) (al : Addr) (n c m cl k i : Nat) (o : List Int) (y : Int) (b : Bool) (hb : b = decide (∃ hj : k < o.length, o[k]'hj < y)) (x19 x20 x21 x22 x23 x24 x25 x26 x27 x28 x29 x30 x31 x32 x33 c1 c2 c6 c7 c8 c9 c10 c11 c12 c13 c14 c15 c16 c17 c18 c34 c35 c36 c37 c38 c39 c40 c41 c42 c43 c44 c45 c46 c47 c48 c49 c50 c51 c52 c53 : Value) (w0 W : World) (Q : Exit → Act → World → Prop) (hb0 : Below w0.heap.size w0 W)
    (hR : IR W A o) (hlo : o.length = n) (C1 : W.cell? (al.add i) = some (.int .i64 y)) (hi : i < m) (hn : n ≤ 1048576) (hm : m ≤ 1048576)
    (hQ : ∀ (w : World) (t19 t20 t21 t22 t23 t24 t25 t26 t27 t28 t29 t30 t31 t32 : Value), Below w0.heap.size w0 w → Q .normal { tmps := #[.slice (some al) m cl, c1, c2, .slice A n c, .int .i64 (i : Int), .int .i64 (k : Int), c6, c7, c8, c9, c10, c11, c12, c13, c14, c15, c16, c17, c18, t19, t20, t21, t22, t23, t24, t25, t26, t27, t28, t29, t30, t31, t32, .bool b, c34, c35, c36, c37, c38, c39, c40, c41, c42, c43, c44, c45, c46, c47, c48, c49, c50, c51, c52, c53], defers := [] } w) :
    Code.wp Tryd.prog ((Tryd.f42.body.bind (regionOf 7)).getD .skip) Q { tmps := #[.slice (some al) m cl, c1, c2, .slice A n c, .int .i64 (i : Int), .int .i64 (k : Int), c6, c7, c8, c9, c10, c11, c12, c13, c14, c15, c16, c17, c18, x19, x20, x21, x22, x23, x24, x25, x26, x27, x28, x29, x30, x31, x32, x33, c34, c35, c36, c37, c38, c39, c40, c41, c42, c43, c44, c45, c46, c47, c48, c49, c50, c51, c52, c53], defers := [] } W := by
  by_cases h : k < n
  · have q0 : decide ((k : Int) < (n : Int)) = true := by simp; omega
    have q1 : decide (k < n) = true := by simpa using h
    have hko : k < o.length := by rw [hlo]; exact h
    obtain ⟨ad, rfl, hcc⟩ := hR (by intro e; rw [e] at hko; simp at hko)
    have e0 := hcc k _ (List.getElem?_eq_getElem hko)
    have g2 : decide (o[k]'hko < y) = b := by rw [hb]; simp [hko]
    exact RoB_region ad al n c m cl k i _ y b x19 x20 x21 x22 x23 x24 x25 x26 x27 x28 x29 x30 x31 x32 x33 c1 c2 c6 c7 c8 c9 c10 c11 c12 c13 c14 c15 c16 c17 c18 c34 c35 c36 c37 c38 c39 c40 c41 c42 c43 c44 c45 c46 c47 c48 c49 c50 c51 c52 c53 w0 W Q hb0 e0 C1 h hi hn hm q0 q1 g2 (fun w _ hb => hQ w _ _ _ _ _ _ _ _ _ _ _ _ _ _ hb)
  · have q0 : decide ((k : Int) < (n : Int)) = false := by simp; omega
    have q1 : decide (k < n) = false := by simpa using h
    obtain rfl : b = false := by rw [hb]; simp; intro h2; omega
    exact RoA_region A (some al) n c m cl k i x19 x20 x21 x22 x23 x24 x25 x26 x27 x28 x29 x30 x31 x32 x33 c1 c2 c6 c7 c8 c9 c10 c11 c12 c13 c14 c15 c16 c17 c18 c34 c35 c36 c37 c38 c39 c40 c41 c42 c43 c44 c45 c46 c47 c48 c49 c50 c51 c52 c53 w0 W Q hb0 q0 q1 (fun w _ hb => hQ w _ _ _ _ _ _ _ _ _ _ _ _ _ _ hb)
end Go.Proofs.YtcmlfkoeajpliaaDoor
namespace Go.Proofs.YtcmlfkoeajpliaaDoor
open Go.RowKit Go.Lib
set_option maxRecDepth 100000
set_option maxHeartbeats 16000000
theorem ordZ_nil : ordZ [] = [] := by unfold ordZ; simp [Lib.compact, Lib.compactUpTo]
theorem own_low {w : World} {b b' : Nat} {e : TypeId} {size n : Nat} {v : Value} {xs : List Value} (h : w.ownsRow b e size v n xs) (hb : b' ≤ b) : w.ownsRow b' e size v n xs := by
  refine ⟨h.1, ?_⟩
  rcases h.2 with h | ⟨g, cap, cur, e1, e2, e3⟩
  · exact .inl h
  · exact .inr ⟨g, cap, cur, e1, Nat.le_trans hb e2, e3⟩
theorem own_IR {w : World} {base n c : Nat} {A : Option Addr} {o : List Int} (h : w.ownsRow base 3 1 (.slice A n c) n (rowZ o)) : IR w A o := fun hne => by
  have hl : o.length = n := by have := h.1; rw [rowZ_len] at this; omega
  obtain ⟨A0, c0, e0, _, hrd⟩ := own_rd h
  cases e0
  have hp : 0 < n := by rcases o with _ | ⟨a, o⟩; exact absurd rfl hne; rw [← hl]; simp
  obtain ⟨ad, e, _, hc⟩ := hrd.2 hp
  exact ⟨ad, e, fun j d hd => hc j _ (by unfold rowZ; rw [List.getElem?_map, hd]; rfl)⟩


theorem reads_dropM {w : World} {base n c k : Nat} {A : Option Addr} {o : List Int} (h : w.ownsRow base 3 1 (.slice A n c) n (rowZ o)) (hk : k ≤ n) : Reads w w.heap.size 1 (Option.map (fun x => x.add k) A) (n - k) (rowZ (o.drop k)) := by
  cases A with
  | some ad => exact reads_drop h hk
  | none =>
    have hl : o.length = n := by have := h.1; rw [rowZ_len] at this; omega
    have hn : n = 0 := by
      rcases Nat.eq_zero_or_pos n with h0 | h0
      · exact h0
      · obtain ⟨A0, c0, e0, _, hrd⟩ := own_rd h
        cases e0
        obtain ⟨ad, e, _⟩ := hrd.2 h0
        cases e
    exact ⟨by rw [rowZ_len, List.length_drop]; omega, fun h0 => absurd h0 (by omega)⟩
theorem reads_dropI {w : World} {base n c k : Nat} {A : Option Addr} {o : List Int} (h : w.ownsRow base 3 1 (.slice A n c) n (rowZ o)) (hk : k ≤ n) : Reads w w.heap.size 1 (if c = k then A else Option.map (fun x => x.add k) A) (n - k) (rowZ (o.drop k)) := by
  by_cases hc : c = k
  · rw [if_pos hc]
    have hl : o.length = n := by have := h.1; rw [rowZ_len] at this; omega
    have := own_cap h
    exact ⟨by rw [rowZ_len, List.length_drop]; omega, fun h0 => absurd h0 (by omega)⟩
  · rw [if_neg hc]; exact reads_dropM h hk
theorem orderRef (Al : Option Addr) (m cl : Nat) (zs : List Int) (w : World) (hA : IR w Al zs) (hl : zs.length = m) (hm : m ≤ 1048576) : Calls Tryd.prog 42 #[.slice Al m cl] w (OrdLeft w zs) := by
  obtain ⟨i3, hi3, hz30, hz31, hz32⟩ := info_parts int_info
  have HA := Lib.hid hA; have HL := Lib.hid hl
  clear hA hl
  go_enter Tryd.func42, Tryd.ntmps42
  go_wp2
  go_loopw [3, 4] (fun s3 s4 wx => ∃ (i n c : Nat) (A : Option Addr), s3 = .slice A n c ∧ s4 = .int .i64 (i : Int) ∧ i ≤ m ∧ n ≤ i ∧ Hid (wx.ownsRow w.heap.size 3 1 (.slice A n c) n (rowZ (ordZ (zs.take i)))) ∧ Below w.heap.size w wx) (fun _ s4 _ => m - (intOf s4).toNat)
  case atStart => exact ⟨0, 0, 0, none, rfl, rfl, by omega, by omega, Lib.hid (by rw [List.take_zero, ordZ_nil]; exact World.ownsRow_nil _ _ _ _), Below.refl _ _⟩
  case round =>
    obtain ⟨i, n, c, A, rfl, rfl, hi, hni, hO, hB⟩ := hrel
    obtain ⟨o, ho⟩ : ∃ o, ordZ (zs.take i) = o := ⟨_, rfl⟩
    by_cases hlt : i < m
    · have g0 : decide ((i : Int) < (m : Int)) = true := by simp; omega
      have g0n : decide (i < m) = true := by simpa using hlt
      have hil : i < zs.length := by rw [HL.out]; exact hlt
      have hne : zs ≠ [] := by intro e; rw [e] at hil; simp at hil
      obtain ⟨al, rfl, hca⟩ := HA.out.below hB hne
      have d0 := hca i _ (List.getElem?_eq_getElem hil)
      obtain ⟨y, hy⟩ : ∃ y, zs[i]'hil = y := ⟨_, rfl⟩
      have HY : Hid (zs[i]? = some y) := Lib.hid (by rw [List.getElem?_eq_getElem hil, hy])
      rw [hy] at d0
      have hO' := hO.out
      rw [ho] at hO'
      have hlo : o.length = n := by have := hO'.1; rw [rowZ_len] at this; omega
      have HC := Lib.hid (inRef A n c o y wr (own_IR hO') hlo (by omega))
      have hcap := own_cap hO'
      have HO := Lib.hid hO'; have HLO := Lib.hid hlo; have HOO := Lib.hid ho
      clear hO hO' hlo ho hca hy hne hil
      go_wp2_with fail
      refine HC.out.mono ?_
      rintro e w1 ⟨rfl, hb1⟩
      have B1 : Below w.heap.size w w1 := bt hB hb1
      have HO1 := Lib.hid (own_below HO.out hb1)
      have d1 := (hb1.cell (World.block_lt_of_cell? wr _ d0)).trans d0
      obtain ⟨b, hb⟩ : ∃ b, o.contains y = b := ⟨_, rfl⟩
      rw [hb]
      cases b with
      | true =>
        have HS := Lib.hid (by rw [ordZ_in HY.out (by rw [HOO.out]; exact hb), HOO.out] : ordZ (zs.take (i + 1)) = o)
        clear hb
        go_wp2
        go_roundw
        case rel => exact ⟨i + 1, n, c, A, rfl, by go_num, by omega, by omega, Lib.hid (by rw [HS.out]; exact HO1.out), B1⟩
        case measure => simp [intOf]; omega
      | false =>
        have HNI := Lib.hid hb
        clear hb HC hb1
        go_wp2
        go_loopw [5] (fun s5 wx => ∃ k : Nat, s5 = .int .i64 (k : Int) ∧ k ≤ n ∧ Hid (∀ j (hj : j < o.length), j < k → o[j]'hj < y) ∧ Below w1.heap.size w1 wx) (fun s5 _ => n - (intOf s5).toNat)
        case atStart => exact ⟨0, rfl, by omega, Lib.hid (fun j hj h => absurd h (by omega)), Below.refl _ _⟩
        case round =>
          obtain ⟨k, rfl, hk, hlow, hB2⟩ := hrel
          obtain ⟨b, hb⟩ : ∃ b, b = decide (∃ hj : k < o.length, o[k]'hj < y) := ⟨_, rfl⟩
          have e1 := (hB2.cell (World.block_lt_of_cell? w1 _ d1)).trans d1
          have HB := Lib.hid hb
          go_upto_region 7 with fail
          refine place_region A al n c m cl k i o y b hb _ _ _ _ _ _ _ _ _ _ _ _ _ _ _ _ _ _ _ _ _ _ _ _ _ _ _ _ _ _ _ _ _ _ _ _ _ _ _ _ _ _ _ _ _ _ _ _ _ _ _ _ _ hB2 ((own_IR HO1.out).below hB2) HLO.out e1 hlt (by omega) hm ?_
          clear hb
          rintro w2 t19 t20 t21 t22 t23 t24 t25 t26 t27 t28 t29 t30 t31 t32 B2
          cases b with
          | true =>
            have HB' := Lib.hid (by simpa using HB.out : ∃ hj : k < o.length, o[k]'hj < y)
            have hkn : k < n := by obtain ⟨h, _⟩ := HB'.out; rw [HLO.out] at h; exact h
            have wk : IntKind.i64.wrap ((k : Int) + 1) = (k : Int) + 1 := by rw [IntKind.wrap_i64]; omega
            have HL2 : Hid (∀ j (hj : j < o.length), j < k + 1 → o[j]'hj < y) := Lib.hid (by
              intro j hj h
              rcases Nat.lt_or_ge j k with h1 | h1
              · exact hlow.out j hj h1
              · obtain rfl : j = k := by omega
                exact HB'.out.2)
            clear HB
            go_wp2
            go_roundw
            case rel => exact ⟨k + 1, by go_num, by omega, HL2, B2⟩
            case measure => simp [intOf]; omega
          | false =>
            have HP := Lib.hid (by
              intro hj
              have h1 : ¬ ∃ hj : k < o.length, o[k]'hj < y := by simpa using HB.out
              have h2 : ¬ o[k]'hj < y := fun h => h1 ⟨hj, h⟩
              have h3 : y ∉ o := by simpa using HNI.out
              have h4 : o[k]'hj ≠ y := fun e => h3 (e ▸ List.getElem_mem hj)
              omega : ∀ hj : k < o.length, y < o[k]'hj)
            have HW := Lib.hid hlow.out
            have HO2 := Lib.hid (own_below HO1.out B2)
            have d2 := (B2.cell (World.block_lt_of_cell? w1 _ d1)).trans d1
            have kc0 : (0 : Int) ≤ (k : Int) := by omega
            have kc1 : (k : Int) ≤ (c : Int) := by have := hcap.1; omega
            have kc2 : (k : Int) ≤ (n : Int) := by omega
            clear HB hlow e1 hB2
            have HB2 := Lib.hid B2; have HB1 := Lib.hid B1
            clear B2 B1 hB
            go_wp2_with (first
              | (at_builtin
                 refine wpList_append_any _ rfl (.tmp 36) (.tmp 39) _ rfl w2.heap.size 3 i3 _ 1 8 Tryd.underlying55 hi3 hz30 hz31 hz32 rfl (by omega) (.slice none 0 0) 0 [] rfl (World.ownsRow_nil _ _ _ _) w2.heap.size _ k _ (rowZ (o.take k)) rfl (reads_take HO2.out hk) (rowZ_one _) (by simp only [maxLen]; omega) (by omega) (Nat.le_refl _) ?_
                 intro v5 w5 hown5 hg5 hat5
                 rw [Nat.zero_add, List.nil_append] at hown5
                 obtain ⟨A5, c5, rfl⟩ := own_slice hown5
                 have B5 : Below w2.heap.size w2 w5 := (Below.refl w2.heap.size w2).grown hg5 (Nat.le_refl _) (fun q hq => by cases hq)
                 have HO5 := Lib.hid (own_below HO2.out B5)
                 have HT5 := Lib.hid hown5
                 have d5 := (B5.cell (World.block_lt_of_cell? w2 _ d2)).trans d2
                 have hz5 := B5.size
                 have HB5 := Lib.hid B5
                 clear hown5 hg5 hat5 B5)
              | (at_builtin
                 refine wpList_append_any _ rfl (.tmp 41) (.tmp 46) _ rfl w2.heap.size 3 i3 _ 1 8 Tryd.underlying55 hi3 hz30 hz31 hz32 rfl (by omega) (.slice A5 k c5) k (rowZ (o.take k)) rfl (HT5.out.alloc _) (w5.heap.size + 1) (some ⟨w5.heap.size, 0, none⟩) 1 1 [.int .i64 y] rfl ⟨rfl, fun _ => ⟨_, rfl, by simp, one_new _ _ _⟩⟩ (by intro u hu; simp at hu; subst hu; rfl) (by simp only [maxLen]; omega) (by omega) (by simp; omega) ?_
                 intro v6 w6 hown6 hg6 hat6
                 obtain ⟨A6, c6, rfl⟩ := own_slice hown6
                 have B6 : Below w2.heap.size w2 w6 := (ba HB5.out).grown hg6 (by simp; omega) (fun q hq => (own_lt HT5.out hq).1)
                 have HO6 := Lib.hid (own_below HO2.out B6)
                 have HT6 := Lib.hid hown6
                 have hz6 := B6.size
                 have HB6 := Lib.hid B6
                 clear hown6 hg6 hat6 B6)
              | (at_builtin
                 go_must (refine wpList_append_any _ rfl (.tmp 48) (.tmp 51) _ rfl w2.heap.size 3 i3 _ 1 8 Tryd.underlying55 hi3 hz30 hz31 hz32 rfl (by omega) (.slice A6 (k + 1) c6) (k + 1) (rowZ (o.take k) ++ [.int .i64 y]) rfl HT6.out w6.heap.size _ (n - k) _ (rowZ (o.drop k)) rfl ?hr (rowZ_one _) (by simp only [maxLen]; omega) (by omega) (by omega) ?_)
                 case hr => first | exact reads_dropI HO6.out hk | exact reads_dropM HO6.out hk
                 intro v7 w7 hown7 hg7 hat7
                 obtain ⟨A7, c7, rfl⟩ := own_slice hown7
                 have HX := Lib.hid (⟨hown7, HB6.out.grown hg7 (by omega) (fun q hq => (own_lt HT6.out hq).1)⟩ : w7.ownsRow w2.heap.size 3 1 (.slice A7 (k + 1 + (n - k)) c7) (k + 1 + (n - k)) (rowZ (o.take k) ++ [.int .i64 y] ++ rowZ (o.drop k)) ∧ Below w2.heap.size w2 w7)
                 clear hown7 hg7 hat7))
            have hk1 : k + 1 + (n - k) = n + 1 := by omega
            have hs := ordZ_ins HY.out (k := k) (by rw [HOO.out, HLO.out]; exact hk) (by rw [HOO.out]; exact HW.out) (by rw [HOO.out]; exact HP.out)
            rw [HOO.out] at hs
            have BX : Below w.heap.size w w7 := bt (bt HB1.out HB2.out) HX.out.2
            have HS := Lib.hid hs
            go_roundw
            case rel => exact ⟨i + 1, k + 1 + (n - k), c7, A7, by first | rfl | go_num, by go_num, by omega, by omega, Lib.hid (by rw [HS.out, rowZ_app]; have h := HX.out.1; rw [List.append_assoc] at h; exact own_low h (by have := (bt HB1.out HB2.out).size; exact this)), BX⟩
            case measure => simp [intOf]; omega
    · obtain rfl : i = m := by omega
      have g0 : decide ((i : Int) < (i : Int)) = false := by simp
      have HO := Lib.hid (⟨hO.out, hB⟩ : _ ∧ _)
      clear hO hB
      go_wp2
      go_ret
      have h := HO.out.1
      rw [List.take_of_length_le (by rw [HL.out]; omega)] at h
      have hn : (ordZ zs).length = n := by have := h.1; rw [rowZ_len] at this; omega
      exact ⟨A, c, by rw [hn]; rfl, by rw [hn]; exact h, HO.out.2⟩
end Go.Proofs.YtcmlfkoeajpliaaDoor
namespace Go.Proofs.YtcmlfkoeajpliaaDoor
open Go.RowKit Go.Lib
set_option maxRecDepth 100000
set_option maxHeartbeats 16000000
theorem IR.reads {w : World} {A : Option Addr} {zs : List Int} {n : Nat} (h : IR w A zs) (hl : zs.length = n) : Reads w w.heap.size 1 A n (rowZ zs) := by
  refine ⟨by rw [rowZ_len]; omega, fun hn => ?_⟩
  have hne : zs ≠ [] := by intro e; rw [e] at hl; simp at hl; omega
  obtain ⟨ad, e, hc⟩ := h hne
  have h0 := hc 0 _ (List.getElem?_eq_getElem (by omega : 0 < zs.length))
  have hb := World.block_lt_of_cell? w _ h0
  rw [block_of_add] at hb
  refine ⟨ad, e, hb, fun j u hu => ?_⟩
  unfold rowZ at hu
  rw [List.getElem?_map, Option.map_eq_some_iff] at hu
  obtain ⟨x, hx, rfl⟩ := hu
  exact hc j x hx
/-- Whether a number of the first row is taken. -/
def tkZ (q : Int) (b : List Int) (x : Int) : Bool := (q == 0) || (b.contains x == (q == 1))
def putZ (q : Int) (a b : List Int) : List Int := a.filter (tkZ q b) ++ (if q = 0 then b else [])
theorem filt_succ {a : List Int} {i : Nat} {x : Int} (f : Int → Bool) (hx : a[i]? = some x) : (a.take (i + 1)).filter f = (a.take i).filter f ++ (if f x = true then [x] else []) := by
  rw [List.take_add_one, hx, List.filter_append]
  congr 1
  cases h : f x <;> simp [h]
theorem filt_len (a : List Int) (i : Nat) (f : Int → Bool) : ((a.take i).filter f).length ≤ i := by
  refine Nat.le_trans (List.length_filter_le _ _) ?_
  rw [List.length_take]
  omega
theorem rowZ_nil : rowZ [] = [] := rfl
theorem setRef (q : Int) (A B : Option Addr) (n m ca cb : Nat) (a b : List Int) (w : World) (hA : IR w A a) (hB : IR w B b) (hla : a.length = n) (hlb : b.length = m) (hn : n ≤ 400000) (hm : m ≤ 400000) :
    Calls Tryd.prog 44 #[.int .i64 q, .slice A n ca, .slice B m cb] w (OrdLeft w (putZ q a b)) := by
  obtain ⟨i3, hi3, hz30, hz31, hz32⟩ := info_parts int_info
  have HA := Lib.hid hA; have HLA := Lib.hid hla; have HBB := Lib.hid hB; have HLB := Lib.hid hlb
  obtain ⟨z, hz⟩ : ∃ z, (q == 0) = z := ⟨_, rfl⟩
  obtain ⟨r, hr⟩ : ∃ r, (q == 1) = r := ⟨_, rfl⟩
  clear hA hla hB hlb
  have HT : Hid (∀ x, tkZ q b x = (z || (b.contains x == r))) := Lib.hid (fun x => by unfold tkZ; rw [hz, hr])
  have HQ : Hid (z = true ↔ q = 0) := Lib.hid (by rw [← hz]; simp)
  go_enter Tryd.func44, Tryd.ntmps44
  go_wp2
  go_loopw [7, 8] (fun s7 s8 wx => ∃ (i k c : Nat) (Ao : Option Addr), s7 = .slice Ao k c ∧ s8 = .int .i64 (i : Int) ∧ i ≤ n ∧ k ≤ i ∧ Hid (wx.ownsRow w.heap.size 3 1 (.slice Ao k c) k (rowZ ((a.take i).filter (tkZ q b)))) ∧ Below w.heap.size w wx) (fun _ s8 _ => n - (intOf s8).toNat)
  case atStart => exact ⟨0, 0, 0, none, rfl, rfl, by omega, by omega, Lib.hid (by rw [List.take_zero]; exact World.ownsRow_nil _ _ _ _), Below.refl _ _⟩
  case round =>
    obtain ⟨i, k, c, Ao, rfl, rfl, hi, hki, hO, hBel⟩ := hrel
    by_cases hlt : i < n
    · have g0 : decide ((i : Int) < (n : Int)) = true := by simp; omega
      have g0n : decide (i < n) = true := by simpa using hlt
      have hil : i < a.length := by rw [HLA.out]; exact hlt
      have hne : a ≠ [] := by intro e; rw [e] at hil; simp at hil
      obtain ⟨al, rfl, hca⟩ := HA.out.below hBel hne
      have d0 := hca i _ (List.getElem?_eq_getElem hil)
      obtain ⟨y, hy⟩ : ∃ y, a[i]'hil = y := ⟨_, rfl⟩
      have HS := Lib.hid (filt_succ (tkZ q b) (by rw [List.getElem?_eq_getElem hil, hy] : a[i]? = some y))
      rw [hy] at d0
      have wi : IntKind.i64.wrap ((i : Int) + 1) = (i : Int) + 1 := by rw [IntKind.wrap_i64]; omega
      clear hca hy hne hil
      cases z with
      | true =>
        have HS' : Hid ((a.take (i + 1)).filter (tkZ q b) = (a.take i).filter (tkZ q b) ++ [y]) := Lib.hid (by rw [HS.out, if_pos (by rw [HT.out]; rfl)])
        have HBel := Lib.hid hBel
        go_wp2_with (first
          | (at_builtin
             go_must (refine wpList_append_any _ rfl (.tmp 28) (.tmp 33) _ rfl w.heap.size 3 i3 _ 1 8 Tryd.underlying55 hi3 hz30 hz31 hz32 rfl (by omega) (.slice Ao k c) k (rowZ ((a.take i).filter (tkZ q b))) rfl (hO.out.alloc _) (wr.heap.size + 1) (some ⟨wr.heap.size, 0, none⟩) 1 1 [.int .i64 y] rfl ⟨rfl, fun _ => ⟨_, rfl, by simp, one_new _ _ _⟩⟩ (by intro u hu; simp at hu; subst hu; rfl) (by simp only [maxLen]; omega) (by omega) (by have := hBel.size; simp; omega) ?_)
             intro v5 w5 hown5 hg5 hat5
             obtain ⟨A5, c5, rfl⟩ := own_slice hown5
             have HX := Lib.hid (⟨hown5, (ba HBel.out).grown hg5 (by have := HBel.out.size; simp; omega) (fun q hq => (own_lt hO.out hq).1)⟩ : w5.ownsRow w.heap.size 3 1 (.slice A5 (k + 1) c5) (k + 1) (rowZ ((a.take i).filter (tkZ q b)) ++ [.int .i64 y]) ∧ Below w.heap.size w w5)
             clear hown5 hg5 hat5))
        go_roundw
        case rel => exact ⟨i + 1, k + 1, c5, A5, by first | rfl | go_num, by go_num, by omega, by omega, Lib.hid (by rw [HS'.out, rowZ_app]; exact HX.out.1), HX.out.2⟩
        case measure => simp [intOf]; omega
      | false =>
        have HC := Lib.hid (inRef B m cb b y wr (HBB.out.below hBel) HLB.out (by omega))
        go_wp2_with fail
        refine HC.out.mono ?_
        rintro e w3 ⟨rfl, hb3⟩
        have B3 : Below w.heap.size w w3 := bt hBel hb3
        have HO3 := Lib.hid (own_below hO.out hb3)
        have d3 := (hb3.cell (World.block_lt_of_cell? wr _ d0)).trans d0
        obtain ⟨s, hs⟩ : ∃ s, (b.contains y == r) = s := ⟨_, rfl⟩
        have hT := HT.out y
        rw [hs, Bool.false_or] at hT
        obtain ⟨cy, hcy⟩ : ∃ cy, b.contains y = cy := ⟨_, rfl⟩
        rw [hcy] at hs ⊢
        clear HC hb3
        cases s with
        | false =>
          have HS' : Hid ((a.take (i + 1)).filter (tkZ q b) = (a.take i).filter (tkZ q b)) := Lib.hid (by rw [HS.out, hT]; simp)
          clear hT
          go_wp2
          go_roundw
          case rel => exact ⟨i + 1, k, c, Ao, rfl, by go_num, by omega, by omega, Lib.hid (by rw [HS'.out]; exact HO3.out), B3⟩
          case measure => simp [intOf]; omega
        | true =>
          have HS' : Hid ((a.take (i + 1)).filter (tkZ q b) = (a.take i).filter (tkZ q b) ++ [y]) := Lib.hid (by rw [HS.out, hT]; simp)
          clear hT
          have hz3 := B3.size
          go_wp2_with (first
            | (at_builtin
               go_must (refine wpList_append_any _ rfl (.tmp 28) (.tmp 33) _ rfl w.heap.size 3 i3 _ 1 8 Tryd.underlying55 hi3 hz30 hz31 hz32 rfl (by omega) (.slice Ao k c) k (rowZ ((a.take i).filter (tkZ q b))) rfl (HO3.out.alloc _) (w3.heap.size + 1) (some ⟨w3.heap.size, 0, none⟩) 1 1 [.int .i64 y] rfl ⟨rfl, fun _ => ⟨_, rfl, by simp, one_new _ _ _⟩⟩ (by intro u hu; simp at hu; subst hu; rfl) (by simp only [maxLen]; omega) (by omega) (by simp; omega) ?_)
               intro v5 w5 hown5 hg5 hat5
               obtain ⟨A5, c5, rfl⟩ := own_slice hown5
               have HX := Lib.hid (⟨hown5, (ba B3).grown hg5 (by simp; omega) (fun q hq => (own_lt HO3.out hq).1)⟩ : w5.ownsRow w.heap.size 3 1 (.slice A5 (k + 1) c5) (k + 1) (rowZ ((a.take i).filter (tkZ q b)) ++ [.int .i64 y]) ∧ Below w.heap.size w w5)
               clear hown5 hg5 hat5))
          go_roundw
          case rel => exact ⟨i + 1, k + 1, c5, A5, by first | rfl | go_num, by go_num, by omega, by omega, Lib.hid (by rw [HS'.out, rowZ_app]; exact HX.out.1), HX.out.2⟩
          case measure => simp [intOf]; omega
    · obtain rfl : i = n := by omega
      have g0 : decide ((i : Int) < (i : Int)) = false := by simp
      have hO' := hO.out
      rw [List.take_of_length_le (by rw [HLA.out]; omega)] at hO'
      have HO' := Lib.hid hO'
      have HBel := Lib.hid hBel
      have hz0 := hBel.size
      clear hO hO' hBel
      cases z with
      | true =>
        have hq : q = 0 := HQ.out.1 rfl
        have HP : Hid (putZ q a b = a.filter (tkZ q b) ++ b) := Lib.hid (by unfold putZ; rw [if_pos hq])
        clear hq
        go_wp2_with (first
          | (at_builtin
             go_must (refine wpList_append_any _ rfl (.tmp 37) (.tmp 38) _ rfl w.heap.size 3 i3 _ 1 8 Tryd.underlying55 hi3 hz30 hz31 hz32 rfl (by omega) (.slice Ao k c) k (rowZ (a.filter (tkZ q b))) rfl HO'.out wr.heap.size B m cb (rowZ b) rfl ((HBB.out.below HBel.out).reads HLB.out) (rowZ_one _) (by simp only [maxLen]; omega) (by omega) hz0 ?_)
             intro v5 w5 hown5 hg5 hat5
             obtain ⟨A5, c5, rfl⟩ := own_slice hown5
             have HX := Lib.hid (⟨hown5, HBel.out.grown hg5 hz0 (fun q hq => (own_lt HO'.out hq).1)⟩ : w5.ownsRow w.heap.size 3 1 (.slice A5 (k + m) c5) (k + m) (rowZ (a.filter (tkZ q b)) ++ rowZ b) ∧ Below w.heap.size w w5)
             clear hown5 hg5 hat5)
          | fail)
        have h5 := HX.out.1
        rw [← rowZ_app, ← HP.out] at h5
        have hl5 : (putZ q a b).length = k + m := by have := h5.1; rw [rowZ_len] at this; omega
        refine (orderRef A5 (k + m) c5 (putZ q a b) w5 (own_IR h5) hl5 (by omega)).mono ?_
        rintro e w6 ⟨A6, c6, rfl, ho6, b6⟩
        have HF := Lib.hid (⟨own_low ho6 HX.out.2.size, bt HX.out.2 b6⟩ : _ ∧ _)
        clear ho6 b6 h5 hl5
        go_wp2
        go_ret
        exact ⟨A6, c6, rfl, HF.out.1, HF.out.2⟩
      | false =>
        have hq : ¬ q = 0 := fun h => by have := HQ.out.2 h; cases this
        have HP : Hid (putZ q a b = a.filter (tkZ q b)) := Lib.hid (by unfold putZ; rw [if_neg hq, List.append_nil])
        clear hq
        go_wp2_with fail
        have h5 := HO'.out
        rw [← HP.out] at h5
        have hl5 : (putZ q a b).length = k := by have := h5.1; rw [rowZ_len] at this; omega
        refine (orderRef Ao k c (putZ q a b) wr (own_IR h5) hl5 (by omega)).mono ?_
        rintro e w6 ⟨A6, c6, rfl, ho6, b6⟩
        have HF := Lib.hid (⟨own_low ho6 HBel.out.size, bt HBel.out b6⟩ : _ ∧ _)
        clear ho6 b6 h5 hl5
        go_wp2
        go_ret
        exact ⟨A6, c6, rfl, HF.out.1, HF.out.2⟩
end Go.Proofs.YtcmlfkoeajpliaaDoor
