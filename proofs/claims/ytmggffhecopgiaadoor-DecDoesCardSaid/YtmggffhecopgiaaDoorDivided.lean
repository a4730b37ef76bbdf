/- Package dec divides numbers of 128 bits: the walk. No condition beyond what the theorems state. -/
import Derived.Test.YtmggffhecopgiaaDoorShare
import Derived.Test.YtmggffhecopgiaaDoorRegion
import Derived.Deep.DeepCutAuto
namespace Go.Proofs
open Go.Shelf Go.RowKit Go.Proofs.Wide
/-- A call that answers v in whatever world and only makes memory. -/
def Gives (f : Nat) (args : Array Value) (v : Value) : Prop := ∀ w : World, Calls Tryd.prog f args w fun e w' => e = .returned v ∧ Below w.heap.size w w'
theorem Gives.call {f : Nat} {args : Array Value} {v : Value} (h : Gives f args v) (w : World) : Calls Tryd.prog f args w fun e w' => e = .returned v ∧ Below w.heap.size w w' := h w
def Dv1I (w0 : World) (a l b m a' l' b' m' q1 q2 r1 r2 : Int) (listed : Array Bool) (A : Act) (w : World) : Prop := ∃ (s6 s7 s8 s9 s10 s11 s12 s13 s14 s15 : Value) (g6 g7 : Nat), A = { tmps := #[.agg #[.int .u64 a, .int .u64 l], .agg #[.int .u64 b, .int .u64 m], .pointer (some ⟨w0.heap.size, 0, none⟩), .pointer (some ⟨w0.heap.size + 1, 0, none⟩), .pointer (some ⟨w0.heap.size + 1 + 1, 0, none⟩), .pointer (some ⟨w0.heap.size + 1 + 1 + 1, 0, none⟩), s6, s7, s8, s9, s10, s11, s12, s13, s14, s15, undef, undef, undef, undef, undef, undef, undef, undef, undef, undef, undef], defers := [] } ∧
  (listed.getD 0 false = true → s9 = .agg #[.int .u64 a, .int .u64 l]) ∧
  (listed.getD 1 false = true → s10 = .agg #[.int .u64 a', .int .u64 l']) ∧
  (listed.getD 2 false = true → s11 = .agg #[.int .u64 b, .int .u64 m]) ∧
  (listed.getD 3 false = true → s12 = .agg #[.int .u64 b', .int .u64 m']) ∧
  (listed.getD 4 false = true → s13 = .tuple #[.agg #[.int .u64 q1, .int .u64 q2], .agg #[.int .u64 r1, .int .u64 r2]]) ∧
  (listed.getD 5 false = true → s8 = .tuple #[.agg #[.int .u64 q1, .int .u64 q2], .agg #[.int .u64 r1, .int .u64 r2]]) ∧
  (listed.getD 6 false = true → s14 = .agg #[.int .u64 q1, .int .u64 q2]) ∧
  (listed.getD 7 false = true → s15 = .agg #[.int .u64 r1, .int .u64 r2]) ∧
  (listed.getD 8 false = true → s6 = .pointer (some ⟨g6, 0, none⟩) ∧ w0.heap.size + 1 + 1 + 1 < g6 ∧ ∃ u v, Own w g6 u v) ∧
  (listed.getD 9 false = true → s7 = .pointer (some ⟨g7, 0, none⟩) ∧ w0.heap.size + 1 + 1 + 1 < g7 ∧ ∃ u v, Own w g7 u v) ∧
  (listed.getD 10 false = true → listed.getD 8 false = true ∧ Own w g6 (.int .u64 q1) (.int .u64 q2)) ∧
  (listed.getD 11 false = true → listed.getD 9 false = true ∧ Own w g7 (.int .u64 r1) (.int .u64 r2)) ∧
  (listed.getD 8 false = true → listed.getD 9 false = true → g6 ≠ g7) ∧
  Below w0.heap.size w0 w ∧
  Own w (w0.heap.size) (.int .u64 a) (.int .u64 l) ∧
  Own w (w0.heap.size + 1) (.int .u64 b) (.int .u64 m) ∧
  (∃ u v, Own w (w0.heap.size + 1 + 1) u v) ∧
  (∃ u v, Own w (w0.heap.size + 1 + 1 + 1) u v)
def Dv2I (w0 : World) (a l b m a' l' b' m' q1 q2 r1 r2 Q1 Q2 R1 R2 : Int) (nx ny : Bool) (g6 g7 : Nat) (listed : Array Bool) (A : Act) (w : World) : Prop := ∃ (s16 s17 s18 s19 s20 s21 s22 s23 s24 s25 s26 : Value), A = { tmps := #[.agg #[.int .u64 a, .int .u64 l], .agg #[.int .u64 b, .int .u64 m], .pointer (some ⟨w0.heap.size, 0, none⟩), .pointer (some ⟨w0.heap.size + 1, 0, none⟩), .pointer (some ⟨w0.heap.size + 1 + 1, 0, none⟩), .pointer (some ⟨w0.heap.size + 1 + 1 + 1, 0, none⟩), .pointer (some ⟨g6, 0, none⟩), .pointer (some ⟨g7, 0, none⟩), .tuple #[.agg #[.int .u64 q1, .int .u64 q2], .agg #[.int .u64 r1, .int .u64 r2]], .agg #[.int .u64 a, .int .u64 l], .agg #[.int .u64 a', .int .u64 l'], .agg #[.int .u64 b, .int .u64 m], .agg #[.int .u64 b', .int .u64 m'], .tuple #[.agg #[.int .u64 q1, .int .u64 q2], .agg #[.int .u64 r1, .int .u64 r2]], .agg #[.int .u64 q1, .int .u64 q2], .agg #[.int .u64 r1, .int .u64 r2], s16, s17, s18, s19, s20, s21, s22, s23, s24, s25, s26], defers := [] } ∧
  (listed.getD 0 false = true → s16 = .agg #[.int .u64 q1, .int .u64 q2]) ∧
  (listed.getD 1 false = true → s17 = .agg #[.int .u64 a, .int .u64 l]) ∧
  (listed.getD 2 false = true → s18 = .bool nx) ∧
  (listed.getD 3 false = true → s19 = .agg #[.int .u64 b, .int .u64 m]) ∧
  (listed.getD 4 false = true → s20 = .bool ny) ∧
  (listed.getD 5 false = true → s21 = .bool (nx != ny)) ∧
  (listed.getD 6 false = true → s22 = .agg #[.int .u64 Q1, .int .u64 Q2]) ∧
  (listed.getD 7 false = true → s23 = .agg #[.int .u64 r1, .int .u64 r2]) ∧
  (listed.getD 8 false = true → s24 = .agg #[.int .u64 a, .int .u64 l]) ∧
  (listed.getD 9 false = true → s25 = .bool nx) ∧
  (listed.getD 10 false = true → s26 = .agg #[.int .u64 R1, .int .u64 R2]) ∧
  (listed.getD 11 false = true → Own w (w0.heap.size + 1 + 1) (.int .u64 Q1) (.int .u64 Q2)) ∧
  (listed.getD 12 false = true → Own w (w0.heap.size + 1 + 1 + 1) (.int .u64 R1) (.int .u64 R2)) ∧
  Below w0.heap.size w0 w ∧
  Own w (w0.heap.size) (.int .u64 a) (.int .u64 l) ∧
  Own w (w0.heap.size + 1) (.int .u64 b) (.int .u64 m) ∧
  (∃ u v, Own w (w0.heap.size + 1 + 1) u v) ∧
  (∃ u v, Own w (w0.heap.size + 1 + 1 + 1) u v) ∧
  Own w (g6) (.int .u64 q1) (.int .u64 q2) ∧
  Own w (g7) (.int .u64 r1) (.int .u64 r2)

set_option maxHeartbeats 4000000 in
theorem divided_core (a l b m a' l' b' m' q1 q2 r1 r2 Q1 Q2 R1 R2 : Int) (nx ny : Bool) (w0 : World)
    (S1 : Hid (Gives 56 #[.agg #[.int .u64 a, .int .u64 l]] (.agg #[.int .u64 a', .int .u64 l'])))
    (S2 : Hid (Gives 56 #[.agg #[.int .u64 b, .int .u64 m]] (.agg #[.int .u64 b', .int .u64 m'])))
    (D : Hid (Gives 72 #[.agg #[.int .u64 a', .int .u64 l'], .agg #[.int .u64 b', .int .u64 m']] (.tuple #[.agg #[.int .u64 q1, .int .u64 q2], .agg #[.int .u64 r1, .int .u64 r2]])))
    (N1 : Hid (Gives 73 #[.agg #[.int .u64 a, .int .u64 l]] (.bool nx)))
    (N2 : Hid (Gives 73 #[.agg #[.int .u64 b, .int .u64 m]] (.bool ny)))
    (G1 : Hid (Gives 40 #[.agg #[.int .u64 q1, .int .u64 q2], .bool (nx != ny)] (.agg #[.int .u64 Q1, .int .u64 Q2])))
    (G2 : Hid (Gives 40 #[.agg #[.int .u64 r1, .int .u64 r2], .bool nx] (.agg #[.int .u64 R1, .int .u64 R2]))) :
    Calls Tryd.prog 49 #[.agg #[.int .u64 a, .int .u64 l], .agg #[.int .u64 b, .int .u64 m]] w0 fun e w' => e = .returned (.tuple #[.agg #[.int .u64 Q1, .int .u64 Q2], .agg #[.int .u64 R1, .int .u64 R2]]) ∧ Below w0.heap.size w0 w' := by
  go_enter Tryd.func49, Tryd.ntmps49
  go_upto_region 1 with fail
  refine wp_region_inv (by kernel_rfl) (by kernel_rfl) (Dv1I w0 a l b m a' l' b' m' q1 q2 r1 r2) ?_ ?_ ?_
  · exact ⟨undef, undef, undef, undef, undef, undef, undef, undef, undef, undef, 0, 0, rfl, fun h => absurd h l0, fun h => absurd h l0, fun h => absurd h l0, fun h => absurd h l0, fun h => absurd h l0, fun h => absurd h l0, fun h => absurd h l0, fun h => absurd h l0, fun h => absurd h l0, fun h => absurd h l0, fun h => absurd h l0, fun h => absurd h l0, fun h => absurd h l0, bdr (ba (ba (ba (ba (Below.refl _ _))))), (((Own.new_at (by simp)).alloc _).alloc _).alloc _, ((Own.new_at (by simp)).alloc _).alloc _, ⟨_, _, (Own.new_at (by simp)).alloc _⟩, ⟨_, _, Own.new_at (by simp)⟩⟩
  · intro i o listed A w hi ho hd hn hI
    obtain ⟨s6, s7, s8, s9, s10, s11, s12, s13, s14, s15, g6, g7, rfl, F0, F1, F2, F3, F4, F5, F6, F7, F8, F9, F10, F11, F12, F13, F14, F15, F16, F17⟩ := hI
    have hi' : i < 12 := hi
    clear hi
    rcases (by omega : i = 0 ∨ i = 1 ∨ i = 2 ∨ i = 3 ∨ i = 4 ∨ i = 5 ∨ i = 6 ∨ i = 7 ∨ i = 8 ∨ i = 9 ∨ i = 10 ∨ i = 11) with rfl | rfl | rfl | rfl | rfl | rfl | rfl | rfl | rfl | rfl | rfl | rfl
    · simp only [List.getElem?_toArray, List.getElem?_cons_zero, Option.some.injEq] at ho
      subst ho
      have O'0 := F14; obtain ⟨_, _, _, _⟩ := O'0
      refine wpOp_step rfl (fun K hK => ?_)
      go_simp
      refine hK _ _ ?_
      exact ⟨_, _, _, _, _, _, _, _, _, _, g6, g7, rfl, fun _ => rfl, fun h => F1 (ls (by decide) h), fun h => F2 (ls (by decide) h), fun h => F3 (ls (by decide) h), fun h => F4 (ls (by decide) h), fun h => F5 (ls (by decide) h), fun h => F6 (ls (by decide) h), fun h => F7 (ls (by decide) h), fun h => F8 (ls (by decide) h), fun h => F9 (ls (by decide) h), fun h => let ⟨x, c⟩ := F10 (ls (by decide) h); ⟨la x, c⟩, fun h => let ⟨x, c⟩ := F11 (ls (by decide) h); ⟨la x, c⟩, fun h h' => F12 (ls (by decide) h) (ls (by decide) h'), F13, F14, F15, F16, F17⟩
    · simp only [List.getElem?_toArray, List.getElem?_cons_zero, List.getElem?_cons_succ, Option.some.injEq] at ho
      subst ho
      obtain rfl := F0 (hd ⟨0, .data⟩ (by simp) rfl)
      refine wpOp_step rfl (fun K hK => ?_)
      go_simp
      go_at_call 56; refine (S1.out.call _).mono ?_; rintro e w' ⟨rfl, hb⟩
      refine hK _ _ ?_
      exact ⟨_, _, _, _, _, _, _, _, _, _, g6, g7, rfl, fun h => F0 (ls (by decide) h), fun _ => rfl, fun h => F2 (ls (by decide) h), fun h => F3 (ls (by decide) h), fun h => F4 (ls (by decide) h), fun h => F5 (ls (by decide) h), fun h => F6 (ls (by decide) h), fun h => F7 (ls (by decide) h), fun h => let ⟨a, b, u, v, c⟩ := F8 (ls (by decide) h); ⟨a, b, u, v, (c).call hb⟩, fun h => let ⟨a, b, u, v, c⟩ := F9 (ls (by decide) h); ⟨a, b, u, v, (c).call hb⟩, fun h => let ⟨x, c⟩ := F10 (ls (by decide) h); ⟨la x, (c).call hb⟩, fun h => let ⟨x, c⟩ := F11 (ls (by decide) h); ⟨la x, (c).call hb⟩, fun h h' => F12 (ls (by decide) h) (ls (by decide) h'), bt F13 hb, (F14).call hb, (F15).call hb, (let ⟨u, v, c⟩ := F16; ⟨u, v, (c).call hb⟩), (let ⟨u, v, c⟩ := F17; ⟨u, v, (c).call hb⟩)⟩
    · simp only [List.getElem?_toArray, List.getElem?_cons_zero, List.getElem?_cons_succ, Option.some.injEq] at ho
      subst ho
      have O'1 := F15; obtain ⟨_, _, _, _⟩ := O'1
      refine wpOp_step rfl (fun K hK => ?_)
      go_simp
      refine hK _ _ ?_
      exact ⟨_, _, _, _, _, _, _, _, _, _, g6, g7, rfl, fun h => F0 (ls (by decide) h), fun h => F1 (ls (by decide) h), fun _ => rfl, fun h => F3 (ls (by decide) h), fun h => F4 (ls (by decide) h), fun h => F5 (ls (by decide) h), fun h => F6 (ls (by decide) h), fun h => F7 (ls (by decide) h), fun h => F8 (ls (by decide) h), fun h => F9 (ls (by decide) h), fun h => let ⟨x, c⟩ := F10 (ls (by decide) h); ⟨la x, c⟩, fun h => let ⟨x, c⟩ := F11 (ls (by decide) h); ⟨la x, c⟩, fun h h' => F12 (ls (by decide) h) (ls (by decide) h'), F13, F14, F15, F16, F17⟩
    · simp only [List.getElem?_toArray, List.getElem?_cons_zero, List.getElem?_cons_succ, Option.some.injEq] at ho
      subst ho
      obtain rfl := F2 (hd ⟨2, .data⟩ (by simp) rfl)
      refine wpOp_step rfl (fun K hK => ?_)
      go_simp
      go_at_call 56; refine (S2.out.call _).mono ?_; rintro e w' ⟨rfl, hb⟩
      refine hK _ _ ?_
      exact ⟨_, _, _, _, _, _, _, _, _, _, g6, g7, rfl, fun h => F0 (ls (by decide) h), fun h => F1 (ls (by decide) h), fun h => F2 (ls (by decide) h), fun _ => rfl, fun h => F4 (ls (by decide) h), fun h => F5 (ls (by decide) h), fun h => F6 (ls (by decide) h), fun h => F7 (ls (by decide) h), fun h => let ⟨a, b, u, v, c⟩ := F8 (ls (by decide) h); ⟨a, b, u, v, (c).call hb⟩, fun h => let ⟨a, b, u, v, c⟩ := F9 (ls (by decide) h); ⟨a, b, u, v, (c).call hb⟩, fun h => let ⟨x, c⟩ := F10 (ls (by decide) h); ⟨la x, (c).call hb⟩, fun h => let ⟨x, c⟩ := F11 (ls (by decide) h); ⟨la x, (c).call hb⟩, fun h h' => F12 (ls (by decide) h) (ls (by decide) h'), bt F13 hb, (F14).call hb, (F15).call hb, (let ⟨u, v, c⟩ := F16; ⟨u, v, (c).call hb⟩), (let ⟨u, v, c⟩ := F17; ⟨u, v, (c).call hb⟩)⟩
    · simp only [List.getElem?_toArray, List.getElem?_cons_zero, List.getElem?_cons_succ, Option.some.injEq] at ho
      subst ho
      obtain rfl := F1 (hd ⟨1, .data⟩ (by simp) rfl)
      obtain rfl := F3 (hd ⟨3, .data⟩ (by simp) rfl)
      refine wpOp_step rfl (fun K hK => ?_)
      go_simp
      go_at_call 72; refine (D.out.call _).mono ?_; rintro e w' ⟨rfl, hb⟩
      refine hK _ _ ?_
      exact ⟨_, _, _, _, _, _, _, _, _, _, g6, g7, rfl, fun h => F0 (ls (by decide) h), fun h => F1 (ls (by decide) h), fun h => F2 (ls (by decide) h), fun h => F3 (ls (by decide) h), fun _ => rfl, fun h => F5 (ls (by decide) h), fun h => F6 (ls (by decide) h), fun h => F7 (ls (by decide) h), fun h => let ⟨a, b, u, v, c⟩ := F8 (ls (by decide) h); ⟨a, b, u, v, (c).call hb⟩, fun h => let ⟨a, b, u, v, c⟩ := F9 (ls (by decide) h); ⟨a, b, u, v, (c).call hb⟩, fun h => let ⟨x, c⟩ := F10 (ls (by decide) h); ⟨la x, (c).call hb⟩, fun h => let ⟨x, c⟩ := F11 (ls (by decide) h); ⟨la x, (c).call hb⟩, fun h h' => F12 (ls (by decide) h) (ls (by decide) h'), bt F13 hb, (F14).call hb, (F15).call hb, (let ⟨u, v, c⟩ := F16; ⟨u, v, (c).call hb⟩), (let ⟨u, v, c⟩ := F17; ⟨u, v, (c).call hb⟩)⟩
    · simp only [List.getElem?_toArray, List.getElem?_cons_zero, List.getElem?_cons_succ, Option.some.injEq] at ho
      subst ho
      obtain rfl := F4 (hd ⟨4, .data⟩ (by simp) rfl)
      refine wpOp_step rfl (fun K hK => ?_)
      go_simp
      refine hK _ _ ?_
      exact ⟨_, _, _, _, _, _, _, _, _, _, g6, g7, rfl, fun h => F0 (ls (by decide) h), fun h => F1 (ls (by decide) h), fun h => F2 (ls (by decide) h), fun h => F3 (ls (by decide) h), fun h => F4 (ls (by decide) h), fun _ => rfl, fun h => F6 (ls (by decide) h), fun h => F7 (ls (by decide) h), fun h => F8 (ls (by decide) h), fun h => F9 (ls (by decide) h), fun h => let ⟨x, c⟩ := F10 (ls (by decide) h); ⟨la x, c⟩, fun h => let ⟨x, c⟩ := F11 (ls (by decide) h); ⟨la x, c⟩, fun h h' => F12 (ls (by decide) h) (ls (by decide) h'), F13, F14, F15, F16, F17⟩
    · simp only [List.getElem?_toArray, List.getElem?_cons_zero, List.getElem?_cons_succ, Option.some.injEq] at ho
      subst ho
      obtain rfl := F5 (hd ⟨5, .data⟩ (by simp) rfl)
      refine wpOp_step rfl (fun K hK => ?_)
      go_simp
      refine hK _ _ ?_
      exact ⟨_, _, _, _, _, _, _, _, _, _, g6, g7, rfl, fun h => F0 (ls (by decide) h), fun h => F1 (ls (by decide) h), fun h => F2 (ls (by decide) h), fun h => F3 (ls (by decide) h), fun h => F4 (ls (by decide) h), fun h => F5 (ls (by decide) h), fun _ => rfl, fun h => F7 (ls (by decide) h), fun h => F8 (ls (by decide) h), fun h => F9 (ls (by decide) h), fun h => let ⟨x, c⟩ := F10 (ls (by decide) h); ⟨la x, c⟩, fun h => let ⟨x, c⟩ := F11 (ls (by decide) h); ⟨la x, c⟩, fun h h' => F12 (ls (by decide) h) (ls (by decide) h'), F13, F14, F15, F16, F17⟩
    · simp only [List.getElem?_toArray, List.getElem?_cons_zero, List.getElem?_cons_succ, Option.some.injEq] at ho
      subst ho
      obtain rfl := F5 (hd ⟨5, .data⟩ (by simp) rfl)
      refine wpOp_step rfl (fun K hK => ?_)
      go_simp
      refine hK _ _ ?_
      exact ⟨_, _, _, _, _, _, _, _, _, _, g6, g7, rfl, fun h => F0 (ls (by decide) h), fun h => F1 (ls (by decide) h), fun h => F2 (ls (by decide) h), fun h => F3 (ls (by decide) h), fun h => F4 (ls (by decide) h), fun h => F5 (ls (by decide) h), fun h => F6 (ls (by decide) h), fun _ => rfl, fun h => F8 (ls (by decide) h), fun h => F9 (ls (by decide) h), fun h => let ⟨x, c⟩ := F10 (ls (by decide) h); ⟨la x, c⟩, fun h => let ⟨x, c⟩ := F11 (ls (by decide) h); ⟨la x, c⟩, fun h h' => F12 (ls (by decide) h) (ls (by decide) h'), F13, F14, F15, F16, F17⟩
    · simp only [List.getElem?_toArray, List.getElem?_cons_zero, List.getElem?_cons_succ, Option.some.injEq] at ho
      subst ho
      refine wpOp_step rfl (fun K hK => ?_)
      go_simp
      refine hK _ _ ?_
      exact ⟨_, _, _, _, _, _, _, _, _, _, w.heap.size, g7, rfl, fun h => F0 (ls (by decide) h), fun h => F1 (ls (by decide) h), fun h => F2 (ls (by decide) h), fun h => F3 (ls (by decide) h), fun h => F4 (ls (by decide) h), fun h => F5 (ls (by decide) h), fun h => F6 (ls (by decide) h), fun h => F7 (ls (by decide) h), fun _ => ⟨rfl, (let ⟨_, _, c⟩ := F17; c.lt), _, _, Own.new _ _ _ _⟩, fun h => let ⟨a, b, u, v, c⟩ := F9 (ls (by decide) h); ⟨a, b, u, v, (c).alloc _⟩, fun h => lc hn (F10 (ls (by decide) h)).1, fun h => let ⟨x, c⟩ := F11 (ls (by decide) h); ⟨la x, (c).alloc _⟩, fun _ h => let ⟨_, _, _, _, c⟩ := F9 (ls (by decide) h); Ne.symm (Nat.ne_of_lt c.lt), ba F13, (F14).alloc _, (F15).alloc _, (let ⟨u, v, c⟩ := F16; ⟨u, v, (c).alloc _⟩), (let ⟨u, v, c⟩ := F17; ⟨u, v, (c).alloc _⟩)⟩
    · simp only [List.getElem?_toArray, List.getElem?_cons_zero, List.getElem?_cons_succ, Option.some.injEq] at ho
      subst ho
      refine wpOp_step rfl (fun K hK => ?_)
      go_simp
      refine hK _ _ ?_
      exact ⟨_, _, _, _, _, _, _, _, _, _, g6, w.heap.size, rfl, fun h => F0 (ls (by decide) h), fun h => F1 (ls (by decide) h), fun h => F2 (ls (by decide) h), fun h => F3 (ls (by decide) h), fun h => F4 (ls (by decide) h), fun h => F5 (ls (by decide) h), fun h => F6 (ls (by decide) h), fun h => F7 (ls (by decide) h), fun h => let ⟨a, b, u, v, c⟩ := F8 (ls (by decide) h); ⟨a, b, u, v, (c).alloc _⟩, fun _ => ⟨rfl, (let ⟨_, _, c⟩ := F17; c.lt), _, _, Own.new _ _ _ _⟩, fun h => let ⟨x, c⟩ := F10 (ls (by decide) h); ⟨la x, (c).alloc _⟩, fun h => lc hn (F11 (ls (by decide) h)).1, fun h _ => let ⟨_, _, _, _, c⟩ := F8 (ls (by decide) h); Nat.ne_of_lt c.lt, ba F13, (F14).alloc _, (F15).alloc _, (let ⟨u, v, c⟩ := F16; ⟨u, v, (c).alloc _⟩), (let ⟨u, v, c⟩ := F17; ⟨u, v, (c).alloc _⟩)⟩
    · simp only [List.getElem?_toArray, List.getElem?_cons_zero, List.getElem?_cons_succ, Option.some.injEq] at ho
      subst ho
      obtain ⟨rfl, A8, u8, v8, O8⟩ := F8 (hd ⟨8, .data⟩ (by simp) rfl)
      have O8' := O8; obtain ⟨_, _, _, _⟩ := O8'
      obtain rfl := F6 (hd ⟨6, .data⟩ (by simp) rfl)
      refine wpOp_step rfl (fun K hK => ?_)
      go_simp
      refine hK _ _ ?_
      exact ⟨_, _, _, _, _, _, _, _, _, _, g6, g7, rfl, fun h => F0 (ls (by decide) h), fun h => F1 (ls (by decide) h), fun h => F2 (ls (by decide) h), fun h => F3 (ls (by decide) h), fun h => F4 (ls (by decide) h), fun h => F5 (ls (by decide) h), fun h => F6 (ls (by decide) h), fun h => F7 (ls (by decide) h), fun _ => ⟨rfl, A8, _, _, O8.store _ _⟩, fun h => let ⟨a, b, u, v, c⟩ := F9 (ls (by decide) h); ⟨a, b, u, v, (c.set_ (F12 (hd ⟨8, .data⟩ (by simp) rfl) (hd ⟨9, .phase⟩ (by simp) rfl))).set_ (F12 (hd ⟨8, .data⟩ (by simp) rfl) (hd ⟨9, .phase⟩ (by simp) rfl))⟩, fun _ => ⟨la (hd ⟨8, .data⟩ (by simp) rfl), O8.store _ _⟩, fun h => let ⟨x, c⟩ := F11 (ls (by decide) h); ⟨la x, (c.set_ (F12 (hd ⟨8, .data⟩ (by simp) rfl) (hd ⟨9, .phase⟩ (by simp) rfl))).set_ (F12 (hd ⟨8, .data⟩ (by simp) rfl) (hd ⟨9, .phase⟩ (by simp) rfl))⟩, fun h h' => F12 (ls (by decide) h) (ls (by decide) h'), bs (bs F13 (by first | (simp; done) | (simp; omega))) (by first | (simp; done) | (simp; omega)), ((F14).set_ (by first | (simp; done) | (simp; omega))).set_ (by first | (simp; done) | (simp; omega)), ((F15).set_ (by first | (simp; done) | (simp; omega))).set_ (by first | (simp; done) | (simp; omega)), (let ⟨u, v, c⟩ := F16; ⟨u, v, (c.set_ (by first | (simp; done) | (simp; omega))).set_ (by first | (simp; done) | (simp; omega))⟩), (let ⟨u, v, c⟩ := F17; ⟨u, v, (c.set_ (by first | (simp; done) | (simp; omega))).set_ (by first | (simp; done) | (simp; omega))⟩)⟩
    · simp only [List.getElem?_toArray, List.getElem?_cons_zero, List.getElem?_cons_succ, Option.some.injEq] at ho
      subst ho
      obtain ⟨rfl, A9, u9, v9, O9⟩ := F9 (hd ⟨9, .data⟩ (by simp) rfl)
      have O9' := O9; obtain ⟨_, _, _, _⟩ := O9'
      obtain rfl := F7 (hd ⟨7, .data⟩ (by simp) rfl)
      refine wpOp_step rfl (fun K hK => ?_)
      go_simp
      refine hK _ _ ?_
      exact ⟨_, _, _, _, _, _, _, _, _, _, g6, g7, rfl, fun h => F0 (ls (by decide) h), fun h => F1 (ls (by decide) h), fun h => F2 (ls (by decide) h), fun h => F3 (ls (by decide) h), fun h => F4 (ls (by decide) h), fun h => F5 (ls (by decide) h), fun h => F6 (ls (by decide) h), fun h => F7 (ls (by decide) h), fun h => let ⟨a, b, u, v, c⟩ := F8 (ls (by decide) h); ⟨a, b, u, v, (c.set_ (Ne.symm (F12 (hd ⟨8, .phase⟩ (by simp) rfl) (hd ⟨9, .data⟩ (by simp) rfl)))).set_ (Ne.symm (F12 (hd ⟨8, .phase⟩ (by simp) rfl) (hd ⟨9, .data⟩ (by simp) rfl)))⟩, fun _ => ⟨rfl, A9, _, _, O9.store _ _⟩, fun h => let ⟨x, c⟩ := F10 (ls (by decide) h); ⟨la x, (c.set_ (Ne.symm (F12 (hd ⟨8, .phase⟩ (by simp) rfl) (hd ⟨9, .data⟩ (by simp) rfl)))).set_ (Ne.symm (F12 (hd ⟨8, .phase⟩ (by simp) rfl) (hd ⟨9, .data⟩ (by simp) rfl)))⟩, fun _ => ⟨la (hd ⟨9, .data⟩ (by simp) rfl), O9.store _ _⟩, fun h h' => F12 (ls (by decide) h) (ls (by decide) h'), bs (bs F13 (by first | (simp; done) | (simp; omega))) (by first | (simp; done) | (simp; omega)), ((F14).set_ (by first | (simp; done) | (simp; omega))).set_ (by first | (simp; done) | (simp; omega)), ((F15).set_ (by first | (simp; done) | (simp; omega))).set_ (by first | (simp; done) | (simp; omega)), (let ⟨u, v, c⟩ := F16; ⟨u, v, (c.set_ (by first | (simp; done) | (simp; omega))).set_ (by first | (simp; done) | (simp; omega))⟩), (let ⟨u, v, c⟩ := F17; ⟨u, v, (c.set_ (by first | (simp; done) | (simp; omega))).set_ (by first | (simp; done) | (simp; omega))⟩)⟩
  · intro listed A w hall hI
    obtain ⟨s6, s7, s8, s9, s10, s11, s12, s13, s14, s15, g6, g7, rfl, F0, F1, F2, F3, F4, F5, F6, F7, F8, F9, F10, F11, F12, F13, F14, F15, F16, F17⟩ := hI
    obtain rfl := F0 (hall 0 (by decide))
    obtain rfl := F1 (hall 1 (by decide))
    obtain rfl := F2 (hall 2 (by decide))
    obtain rfl := F3 (hall 3 (by decide))
    obtain rfl := F4 (hall 4 (by decide))
    obtain rfl := F5 (hall 5 (by decide))
    obtain rfl := F6 (hall 6 (by decide))
    obtain rfl := F7 (hall 7 (by decide))
    obtain ⟨rfl, A8, u8, v8, O8⟩ := F8 (hall 8 (by decide))
    obtain ⟨rfl, A9, u9, v9, O9⟩ := F9 (hall 9 (by decide))
    have P10 := (F10 (hall 10 (by decide))).2
    have P11 := (F11 (hall 11 (by decide))).2
    have N12 := F12 (hall _ (by decide)) (hall _ (by decide))
    have HB := F13
    have B0 := F14
    have B1 := F15
    have B2 := F16
    have B3 := F17
    clear hall F8 F9 F10 F11 F12 F13 F14 F15 F16 F17 F0 F1 F2 F3 F4 F5 F6 F7

    clear O8 O9 u8 v8 u9 v9
    go_upto_region 2 with fail
    refine wp_region_inv (by kernel_rfl) (by kernel_rfl) (Dv2I w0 a l b m a' l' b' m' q1 q2 r1 r2 Q1 Q2 R1 R2 nx ny g6 g7) ?_ ?_ ?_
    · exact ⟨undef, undef, undef, undef, undef, undef, undef, undef, undef, undef, undef, rfl, fun h => absurd h l0, fun h => absurd h l0, fun h => absurd h l0, fun h => absurd h l0, fun h => absurd h l0, fun h => absurd h l0, fun h => absurd h l0, fun h => absurd h l0, fun h => absurd h l0, fun h => absurd h l0, fun h => absurd h l0, fun h => absurd h l0, fun h => absurd h l0, bdr HB, B0.drew, B1.drew, (let ⟨u, v, c⟩ := B2; ⟨u, v, c.drew⟩), (let ⟨u, v, c⟩ := B3; ⟨u, v, c.drew⟩), P10.drew, P11.drew⟩
    · intro i o listed A w hi ho hd hn hI
      obtain ⟨s16, s17, s18, s19, s20, s21, s22, s23, s24, s25, s26, rfl, F0, F1, F2, F3, F4, F5, F6, F7, F8, F9, F10, F11, F12, F13, F14, F15, F16, F17, F18, F19⟩ := hI
      have hi' : i < 13 := hi
      clear hi
      rcases (by omega : i = 0 ∨ i = 1 ∨ i = 2 ∨ i = 3 ∨ i = 4 ∨ i = 5 ∨ i = 6 ∨ i = 7 ∨ i = 8 ∨ i = 9 ∨ i = 10 ∨ i = 11 ∨ i = 12) with rfl | rfl | rfl | rfl | rfl | rfl | rfl | rfl | rfl | rfl | rfl | rfl | rfl
      · simp only [List.getElem?_toArray, List.getElem?_cons_zero, Option.some.injEq] at ho
        subst ho
        have O'4 := F18; obtain ⟨_, _, _, _⟩ := O'4
        refine wpOp_step rfl (fun K hK => ?_)
        go_simp
        refine hK _ _ ?_
        exact ⟨_, _, _, _, _, _, _, _, _, _, _, rfl, fun _ => rfl, fun h => F1 (ls (by decide) h), fun h => F2 (ls (by decide) h), fun h => F3 (ls (by decide) h), fun h => F4 (ls (by decide) h), fun h => F5 (ls (by decide) h), fun h => F6 (ls (by decide) h), fun h => F7 (ls (by decide) h), fun h => F8 (ls (by decide) h), fun h => F9 (ls (by decide) h), fun h => F10 (ls (by decide) h), fun h => F11 (ls (by decide) h), fun h => F12 (ls (by decide) h), F13, F14, F15, F16, F17, F18, F19⟩
      · simp only [List.getElem?_toArray, List.getElem?_cons_zero, List.getElem?_cons_succ, Option.some.injEq] at ho
        subst ho
        have O'0 := F14; obtain ⟨_, _, _, _⟩ := O'0
        refine wpOp_step rfl (fun K hK => ?_)
        go_simp
        refine hK _ _ ?_
        exact ⟨_, _, _, _, _, _, _, _, _, _, _, rfl, fun h => F0 (ls (by decide) h), fun _ => rfl, fun h => F2 (ls (by decide) h), fun h => F3 (ls (by decide) h), fun h => F4 (ls (by decide) h), fun h => F5 (ls (by decide) h), fun h => F6 (ls (by decide) h), fun h => F7 (ls (by decide) h), fun h => F8 (ls (by decide) h), fun h => F9 (ls (by decide) h), fun h => F10 (ls (by decide) h), fun h => F11 (ls (by decide) h), fun h => F12 (ls (by decide) h), F13, F14, F15, F16, F17, F18, F19⟩
      · simp only [List.getElem?_toArray, List.getElem?_cons_zero, List.getElem?_cons_succ, Option.some.injEq] at ho
        subst ho
        obtain rfl := F1 (hd ⟨1, .data⟩ (by simp) rfl)
        refine wpOp_step rfl (fun K hK => ?_)
        go_simp
        go_at_call 73; refine (N1.out.call _).mono ?_; rintro e w' ⟨rfl, hb⟩
        refine hK _ _ ?_
        exact ⟨_, _, _, _, _, _, _, _, _, _, _, rfl, fun h => F0 (ls (by decide) h), fun h => F1 (ls (by decide) h), fun _ => rfl, fun h => F3 (ls (by decide) h), fun h => F4 (ls (by decide) h), fun h => F5 (ls (by decide) h), fun h => F6 (ls (by decide) h), fun h => F7 (ls (by decide) h), fun h => F8 (ls (by decide) h), fun h => F9 (ls (by decide) h), fun h => F10 (ls (by decide) h), fun h => ((F11 (ls (by decide) h))).call hb, fun h => ((F12 (ls (by decide) h))).call hb, bt F13 hb, (F14).call hb, (F15).call hb, (let ⟨u, v, c⟩ := F16; ⟨u, v, (c).call hb⟩), (let ⟨u, v, c⟩ := F17; ⟨u, v, (c).call hb⟩), (F18).call hb, (F19).call hb⟩
      · simp only [List.getElem?_toArray, List.getElem?_cons_zero, List.getElem?_cons_succ, Option.some.injEq] at ho
        subst ho
        have O'1 := F15; obtain ⟨_, _, _, _⟩ := O'1
        refine wpOp_step rfl (fun K hK => ?_)
        go_simp
        refine hK _ _ ?_
        exact ⟨_, _, _, _, _, _, _, _, _, _, _, rfl, fun h => F0 (ls (by decide) h), fun h => F1 (ls (by decide) h), fun h => F2 (ls (by decide) h), fun _ => rfl, fun h => F4 (ls (by decide) h), fun h => F5 (ls (by decide) h), fun h => F6 (ls (by decide) h), fun h => F7 (ls (by decide) h), fun h => F8 (ls (by decide) h), fun h => F9 (ls (by decide) h), fun h => F10 (ls (by decide) h), fun h => F11 (ls (by decide) h), fun h => F12 (ls (by decide) h), F13, F14, F15, F16, F17, F18, F19⟩
      · simp only [List.getElem?_toArray, List.getElem?_cons_zero, List.getElem?_cons_succ, Option.some.injEq] at ho
        subst ho
        obtain rfl := F3 (hd ⟨3, .data⟩ (by simp) rfl)
        refine wpOp_step rfl (fun K hK => ?_)
        go_simp
        go_at_call 73; refine (N2.out.call _).mono ?_; rintro e w' ⟨rfl, hb⟩
        refine hK _ _ ?_
        exact ⟨_, _, _, _, _, _, _, _, _, _, _, rfl, fun h => F0 (ls (by decide) h), fun h => F1 (ls (by decide) h), fun h => F2 (ls (by decide) h), fun h => F3 (ls (by decide) h), fun _ => rfl, fun h => F5 (ls (by decide) h), fun h => F6 (ls (by decide) h), fun h => F7 (ls (by decide) h), fun h => F8 (ls (by decide) h), fun h => F9 (ls (by decide) h), fun h => F10 (ls (by decide) h), fun h => ((F11 (ls (by decide) h))).call hb, fun h => ((F12 (ls (by decide) h))).call hb, bt F13 hb, (F14).call hb, (F15).call hb, (let ⟨u, v, c⟩ := F16; ⟨u, v, (c).call hb⟩), (let ⟨u, v, c⟩ := F17; ⟨u, v, (c).call hb⟩), (F18).call hb, (F19).call hb⟩
      · simp only [List.getElem?_toArray, List.getElem?_cons_zero, List.getElem?_cons_succ, Option.some.injEq] at ho
        subst ho
        obtain rfl := F2 (hd ⟨2, .data⟩ (by simp) rfl)
        obtain rfl := F4 (hd ⟨4, .data⟩ (by simp) rfl)
        refine wpOp_step rfl (fun K hK => ?_)
        go_simp
        refine hK _ _ ?_
        exact ⟨_, _, _, _, _, _, _, _, _, _, _, rfl, fun h => F0 (ls (by decide) h), fun h => F1 (ls (by decide) h), fun h => F2 (ls (by decide) h), fun h => F3 (ls (by decide) h), fun h => F4 (ls (by decide) h), fun _ => rfl, fun h => F6 (ls (by decide) h), fun h => F7 (ls (by decide) h), fun h => F8 (ls (by decide) h), fun h => F9 (ls (by decide) h), fun h => F10 (ls (by decide) h), fun h => F11 (ls (by decide) h), fun h => F12 (ls (by decide) h), F13, F14, F15, F16, F17, F18, F19⟩
      · simp only [List.getElem?_toArray, List.getElem?_cons_zero, List.getElem?_cons_succ, Option.some.injEq] at ho
        subst ho
        obtain rfl := F0 (hd ⟨0, .data⟩ (by simp) rfl)
        obtain rfl := F5 (hd ⟨5, .data⟩ (by simp) rfl)
        refine wpOp_step rfl (fun K hK => ?_)
        go_simp
        go_at_call 40; refine (G1.out.call _).mono ?_; rintro e w' ⟨rfl, hb⟩
        refine hK _ _ ?_
        exact ⟨_, _, _, _, _, _, _, _, _, _, _, rfl, fun h => F0 (ls (by decide) h), fun h => F1 (ls (by decide) h), fun h => F2 (ls (by decide) h), fun h => F3 (ls (by decide) h), fun h => F4 (ls (by decide) h), fun h => F5 (ls (by decide) h), fun _ => rfl, fun h => F7 (ls (by decide) h), fun h => F8 (ls (by decide) h), fun h => F9 (ls (by decide) h), fun h => F10 (ls (by decide) h), fun h => ((F11 (ls (by decide) h))).call hb, fun h => ((F12 (ls (by decide) h))).call hb, bt F13 hb, (F14).call hb, (F15).call hb, (let ⟨u, v, c⟩ := F16; ⟨u, v, (c).call hb⟩), (let ⟨u, v, c⟩ := F17; ⟨u, v, (c).call hb⟩), (F18).call hb, (F19).call hb⟩
      · simp only [List.getElem?_toArray, List.getElem?_cons_zero, List.getElem?_cons_succ, Option.some.injEq] at ho
        subst ho
        have O'5 := F19; obtain ⟨_, _, _, _⟩ := O'5
        refine wpOp_step rfl (fun K hK => ?_)
        go_simp
        refine hK _ _ ?_
        exact ⟨_, _, _, _, _, _, _, _, _, _, _, rfl, fun h => F0 (ls (by decide) h), fun h => F1 (ls (by decide) h), fun h => F2 (ls (by decide) h), fun h => F3 (ls (by decide) h), fun h => F4 (ls (by decide) h), fun h => F5 (ls (by decide) h), fun h => F6 (ls (by decide) h), fun _ => rfl, fun h => F8 (ls (by decide) h), fun h => F9 (ls (by decide) h), fun h => F10 (ls (by decide) h), fun h => F11 (ls (by decide) h), fun h => F12 (ls (by decide) h), F13, F14, F15, F16, F17, F18, F19⟩
      · simp only [List.getElem?_toArray, List.getElem?_cons_zero, List.getElem?_cons_succ, Option.some.injEq] at ho
        subst ho
        have O'0 := F14; obtain ⟨_, _, _, _⟩ := O'0
        refine wpOp_step rfl (fun K hK => ?_)
        go_simp
        refine hK _ _ ?_
        exact ⟨_, _, _, _, _, _, _, _, _, _, _, rfl, fun h => F0 (ls (by decide) h), fun h => F1 (ls (by decide) h), fun h => F2 (ls (by decide) h), fun h => F3 (ls (by decide) h), fun h => F4 (ls (by decide) h), fun h => F5 (ls (by decide) h), fun h => F6 (ls (by decide) h), fun h => F7 (ls (by decide) h), fun _ => rfl, fun h => F9 (ls (by decide) h), fun h => F10 (ls (by decide) h), fun h => F11 (ls (by decide) h), fun h => F12 (ls (by decide) h), F13, F14, F15, F16, F17, F18, F19⟩
      · simp only [List.getElem?_toArray, List.getElem?_cons_zero, List.getElem?_cons_succ, Option.some.injEq] at ho
        subst ho
        obtain rfl := F8 (hd ⟨8, .data⟩ (by simp) rfl)
        refine wpOp_step rfl (fun K hK => ?_)
        go_simp
        go_at_call 73; refine (N1.out.call _).mono ?_; rintro e w' ⟨rfl, hb⟩
        refine hK _ _ ?_
        exact ⟨_, _, _, _, _, _, _, _, _, _, _, rfl, fun h => F0 (ls (by decide) h), fun h => F1 (ls (by decide) h), fun h => F2 (ls (by decide) h), fun h => F3 (ls (by decide) h), fun h => F4 (ls (by decide) h), fun h => F5 (ls (by decide) h), fun h => F6 (ls (by decide) h), fun h => F7 (ls (by decide) h), fun h => F8 (ls (by decide) h), fun _ => rfl, fun h => F10 (ls (by decide) h), fun h => ((F11 (ls (by decide) h))).call hb, fun h => ((F12 (ls (by decide) h))).call hb, bt F13 hb, (F14).call hb, (F15).call hb, (let ⟨u, v, c⟩ := F16; ⟨u, v, (c).call hb⟩), (let ⟨u, v, c⟩ := F17; ⟨u, v, (c).call hb⟩), (F18).call hb, (F19).call hb⟩
      · simp only [List.getElem?_toArray, List.getElem?_cons_zero, List.getElem?_cons_succ, Option.some.injEq] at ho
        subst ho
        obtain rfl := F7 (hd ⟨7, .data⟩ (by simp) rfl)
        obtain rfl := F9 (hd ⟨9, .data⟩ (by simp) rfl)
        refine wpOp_step rfl (fun K hK => ?_)
        go_simp
        go_at_call 40; refine (G2.out.call _).mono ?_; rintro e w' ⟨rfl, hb⟩
        refine hK _ _ ?_
        exact ⟨_, _, _, _, _, _, _, _, _, _, _, rfl, fun h => F0 (ls (by decide) h), fun h => F1 (ls (by decide) h), fun h => F2 (ls (by decide) h), fun h => F3 (ls (by decide) h), fun h => F4 (ls (by decide) h), fun h => F5 (ls (by decide) h), fun h => F6 (ls (by decide) h), fun h => F7 (ls (by decide) h), fun h => F8 (ls (by decide) h), fun h => F9 (ls (by decide) h), fun _ => rfl, fun h => ((F11 (ls (by decide) h))).call hb, fun h => ((F12 (ls (by decide) h))).call hb, bt F13 hb, (F14).call hb, (F15).call hb, (let ⟨u, v, c⟩ := F16; ⟨u, v, (c).call hb⟩), (let ⟨u, v, c⟩ := F17; ⟨u, v, (c).call hb⟩), (F18).call hb, (F19).call hb⟩
      · simp only [List.getElem?_toArray, List.getElem?_cons_zero, List.getElem?_cons_succ, Option.some.injEq] at ho
        subst ho
        obtain rfl := F6 (hd ⟨6, .data⟩ (by simp) rfl)
        obtain ⟨u'2, v'2, O'2⟩ := F16; have O''2 := O'2; obtain ⟨_, _, _, _⟩ := O''2
        refine wpOp_step rfl (fun K hK => ?_)
        go_simp
        refine hK _ _ ?_
        exact ⟨_, _, _, _, _, _, _, _, _, _, _, rfl, fun h => F0 (ls (by decide) h), fun h => F1 (ls (by decide) h), fun h => F2 (ls (by decide) h), fun h => F3 (ls (by decide) h), fun h => F4 (ls (by decide) h), fun h => F5 (ls (by decide) h), fun h => F6 (ls (by decide) h), fun h => F7 (ls (by decide) h), fun h => F8 (ls (by decide) h), fun h => F9 (ls (by decide) h), fun h => F10 (ls (by decide) h), fun _ => O'2.store _ _, fun h => ((F12 (ls (by decide) h)).set_ (by first | (simp; done) | (simp; omega))).set_ (by first | (simp; done) | (simp; omega)), bs (bs F13 (by first | (simp; done) | (simp; omega))) (by first | (simp; done) | (simp; omega)), ((F14).set_ (by first | (simp; done) | (simp; omega))).set_ (by first | (simp; done) | (simp; omega)), ((F15).set_ (by first | (simp; done) | (simp; omega))).set_ (by first | (simp; done) | (simp; omega)), ⟨_, _, O'2.store _ _⟩, (let ⟨u, v, c⟩ := F17; ⟨u, v, (c.set_ (by first | (simp; done) | (simp; omega))).set_ (by first | (simp; done) | (simp; omega))⟩), ((F18).set_ (by first | (simp; done) | (simp; omega))).set_ (by first | (simp; done) | (simp; omega)), ((F19).set_ (by first | (simp; done) | (simp; omega))).set_ (by first | (simp; done) | (simp; omega))⟩
      · simp only [List.getElem?_toArray, List.getElem?_cons_zero, List.getElem?_cons_succ, Option.some.injEq] at ho
        subst ho
        obtain rfl := F10 (hd ⟨10, .data⟩ (by simp) rfl)
        obtain ⟨u'3, v'3, O'3⟩ := F17; have O''3 := O'3; obtain ⟨_, _, _, _⟩ := O''3
        refine wpOp_step rfl (fun K hK => ?_)
        go_simp
        refine hK _ _ ?_
        exact ⟨_, _, _, _, _, _, _, _, _, _, _, rfl, fun h => F0 (ls (by decide) h), fun h => F1 (ls (by decide) h), fun h => F2 (ls (by decide) h), fun h => F3 (ls (by decide) h), fun h => F4 (ls (by decide) h), fun h => F5 (ls (by decide) h), fun h => F6 (ls (by decide) h), fun h => F7 (ls (by decide) h), fun h => F8 (ls (by decide) h), fun h => F9 (ls (by decide) h), fun h => F10 (ls (by decide) h), fun h => ((F11 (ls (by decide) h)).set_ (by first | (simp; done) | (simp; omega))).set_ (by first | (simp; done) | (simp; omega)), fun _ => O'3.store _ _, bs (bs F13 (by first | (simp; done) | (simp; omega))) (by first | (simp; done) | (simp; omega)), ((F14).set_ (by first | (simp; done) | (simp; omega))).set_ (by first | (simp; done) | (simp; omega)), ((F15).set_ (by first | (simp; done) | (simp; omega))).set_ (by first | (simp; done) | (simp; omega)), (let ⟨u, v, c⟩ := F16; ⟨u, v, (c.set_ (by first | (simp; done) | (simp; omega))).set_ (by first | (simp; done) | (simp; omega))⟩), ⟨_, _, O'3.store _ _⟩, ((F18).set_ (by first | (simp; done) | (simp; omega))).set_ (by first | (simp; done) | (simp; omega)), ((F19).set_ (by first | (simp; done) | (simp; omega))).set_ (by first | (simp; done) | (simp; omega))⟩
    · intro listed A w hall hI
      obtain ⟨s16, s17, s18, s19, s20, s21, s22, s23, s24, s25, s26, rfl, F0, F1, F2, F3, F4, F5, F6, F7, F8, F9, F10, F11, F12, F13, F14, F15, F16, F17, F18, F19⟩ := hI
      obtain rfl := F0 (hall 0 (by decide))
      obtain rfl := F1 (hall 1 (by decide))
      obtain rfl := F2 (hall 2 (by decide))
      obtain rfl := F3 (hall 3 (by decide))
      obtain rfl := F4 (hall 4 (by decide))
      obtain rfl := F5 (hall 5 (by decide))
      obtain rfl := F6 (hall 6 (by decide))
      obtain rfl := F7 (hall 7 (by decide))
      obtain rfl := F8 (hall 8 (by decide))
      obtain rfl := F9 (hall 9 (by decide))
      obtain rfl := F10 (hall 10 (by decide))
      have P11 := F11 (hall 11 (by decide))
      have P12 := F12 (hall 12 (by decide))
      have HB := F13
      have B0 := F14
      have B1 := F15
      have B2 := F16
      have B3 := F17
      have B4 := F18
      have B5 := F19
      clear hall F11 F12 F13 F14 F15 F16 F17 F18 F19 F0 F1 F2 F3 F4 F5 F6 F7 F8 F9 F10

      obtain ⟨_, _, _, _⟩ := P11
      obtain ⟨_, _, _, _⟩ := P12
      go_wp2
      exact bodyPost_ret (v := .tuple #[.agg #[.int .u64 Q1, .int .u64 Q2], .agg #[.int .u64 R1, .int .u64 R2]]) (by simp [results, Tryd.results49, go_sem, *]) rfl ⟨rfl, HB⟩
end Go.Proofs
