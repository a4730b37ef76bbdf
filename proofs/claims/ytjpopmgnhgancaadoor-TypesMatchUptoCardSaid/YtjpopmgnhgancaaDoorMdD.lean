/- The statement TypesMatch: regions that draw their order. No condition beyond what the theorems state. -/
import Derived.Test.YtjpopmgnhgancaaDoorRegWords
import Derived.Test.YtjpopmgnhgancaaDoorMdA
import Derived.Test.YtjpopmgnhgancaaDoorHdA
import Derived.Lib.Builder
namespace Go.Proofs.YtjpopmgnhgancaaDoor
open Go.RowKit Go.Lib
set_option maxRecDepth 100000
/-- What an operation leaves: a value, a row of types as they came in, a new empty row of items, a row of items, or nothing told. -/
inductive Sw where
  | val (v : Value)
  | rr (ts : List RT) (n : Nat)
  | nw
  | it (L : List It) (n : Nat)
  | any
def Sw.holds : Sw → World → Value → Prop
  | .val v, _, x => x = v
  | .rr ts n, w, x => ∃ g, x = .slice (some ⟨g, 0, none⟩) n n ∧ g < w.heap.size ∧ RRow w g ts
  | .nw, w, x => ∃ g, x = .slice (some ⟨g, 0, none⟩) 0 0 ∧ w.heap[g]? = some (.cells #[] 43 (0, 0))
  | .it L n, w, x => ∃ A c, x = .slice A n c ∧ IRow6 w A L
  | .any, _, _ => True
theorem Sw.mono (s : Sw) {w w' : World} {v : Value} (hb : Below w.heap.size w w') (h : s.holds w v) : s.holds w' v := by
  cases s with
  | val x => exact h
  | rr ts n =>
    obtain ⟨g, h1, h2, h3⟩ := h
    exact ⟨g, h1, zz hb h2, h3.below hb⟩
  | nw =>
    obtain ⟨g, h1, h2⟩ := h
    exact ⟨g, h1, (hb.block g (Array.getElem?_eq_some_iff.1 h2).1).trans h2⟩
  | it L n =>
    obtain ⟨A, c, h1, h2⟩ := h
    exact ⟨A, c, h1, h2.below hb⟩
  | any => trivial
theorem rr1_new (w : World) (a : RT) : RRow (w.alloc (.cells #[.int .i64 a.i, .string (ba' a.n), .int .i64 a.o] 26)) w.heap.size [a] := by
  intro j t hj
  match j, hj with
  | 0, hj => cases hj; exact ⟨by go_simp, by go_simp, by go_simp⟩
  | j + 1, hj => simp at hj
theorem rr2_new (w : World) (a b : RT) : RRow (w.alloc (.cells #[.int .i64 a.i, .string (ba' a.n), .int .i64 a.o, .int .i64 b.i, .string (ba' b.n), .int .i64 b.o] 26)) w.heap.size [a, b] := by
  intro j t hj
  match j, hj with
  | 0, hj => cases hj; exact ⟨by go_simp, by go_simp, by go_simp⟩
  | 1, hj => cases hj; exact ⟨by go_simp, by go_simp, by go_simp⟩
  | j + 2, hj => simp at hj
theorem integer_any (w : World) : Calls Tryd.prog 11 #[.int .i64 0] w fun e w' => e = .returned (.agg #[.int .i64 1, .string (ba' []), .int .i64 0]) ∧ Below w.heap.size w w' := by
  go_enter Tryd.func11, Tryd.ntmps11
  go_wp2
  exact bodyPost_ret (v := .agg #[.int .i64 1, .string ⟨#[]⟩, .int .i64 0]) (by simp [results, Tryd.results11, go_sem, *] <;> first | rfl | omega) rfl ⟨rfl, (by repeat (with_reducible (first | exact Below.refl _ _ | assumption | apply ba | apply bd | apply bdr | (refine bs ?_ (by first | assumption | (simp; done) | (simp; omega))) | (refine bt ?_ (by assumption)))))⟩
def Mt3Sw (_gt : Nat) (ti tq : Int) (tn : List UInt8) (r : Bool) (_v0 _v2 : Value) : List Sw := [.val (.agg #[.int .i64 ti, .string (ba' tn), .int .i64 tq]), .rr [⟨ti, tn, tq⟩] 1, .val (.bool r), .val (.agg #[.int .i64 ti, .string (ba' tn), .int .i64 tq]), .val (.bool r), .val (.bool false), .val (.bool false), .val (.agg #[.int .i64 1, .string (ba' []), .int .i64 0]), .val (.agg #[.int .i64 ti, .string (ba' tn), .int .i64 tq]), .rr [⟨1, [], 0⟩, ⟨ti, tn, tq⟩] 2, .val (.bool r), .val (.agg #[.int .i64 ti, .string (ba' tn), .int .i64 tq]), .val (.bool r), .val (.bool false), .val (.bool false)]
set_option maxHeartbeats 16000000 in
theorem Mt3_region (gt : Nat) (ti tq : Int) (tn : List UInt8) (r : Bool) (v0 v2 : Value) (w0 : World) {W : World} {Q : Exit → Act → World → Prop} {a0 : Act} (hsz : a0.tmps.size = 102) (f0 : a0.tmps.getD 0 undef = v0) (f2 : a0.tmps.getD 2 undef = v2) (f4 : a0.tmps.getD 4 undef = .pointer (some ⟨gt, 0, none⟩)) (hb0 : Below w0.heap.size w0 W) (C0 : W.cell? ⟨gt, 0, none⟩ = some (.int .i64 ti)) (C1 : W.cell? ⟨gt, 1, none⟩ = some (.string (ba' tn))) (C2 : W.cell? ⟨gt, 2, none⟩ = some (.int .i64 tq)) (R1 : Hid (∀ w1 g, Below w0.heap.size w0 w1 → g < w1.heap.size → RRow w1 g [⟨ti, tn, tq⟩] → Calls Tryd.prog 9 #[.slice (some ⟨g, 0, none⟩) 1 1] w1 fun e w' => e = .returned (.bool r) ∧ Below w1.heap.size w1 w')) (R2 : Hid (∀ w1 g, Below w0.heap.size w0 w1 → g < w1.heap.size → RRow w1 g [⟨1, [], 0⟩, ⟨ti, tn, tq⟩] → Calls Tryd.prog 9 #[.slice (some ⟨g, 0, none⟩) 2 2] w1 fun e w' => e = .returned (.bool r) ∧ Below w1.heap.size w1 w')) (RF : Hid (∀ w1, Below w0.heap.size w0 w1 → Calls Tryd.prog 10 #[.agg #[.int .i64 ti, .string (ba' tn), .int .i64 tq]] w1 fun e w' => e = .returned (.bool r) ∧ Below w1.heap.size w1 w')) (IT : Hid (∀ w1, Below w0.heap.size w0 w1 → Calls Tryd.prog 11 #[.int .i64 0] w1 fun e w' => e = .returned (.agg #[.int .i64 1, .string (ba' []), .int .i64 0]) ∧ Below w1.heap.size w1 w'))
    (hQ : ∀ (A : Act) (w : World), A.defers = a0.defers → A.tmps.size = 102 → A.tmps.getD 34 undef = .bool false → A.tmps.getD 0 undef = v0 → A.tmps.getD 2 undef = v2 → A.tmps.getD 4 undef = .pointer (some ⟨gt, 0, none⟩) → Below w0.heap.size w0 w → Q .normal A w) :
    Code.wp Tryd.prog ((Tryd.f3.body.bind (regionOf 3)).getD .skip) Q a0 W := by
  conv => arg 2; whnf
  (try simp only [List.append_eq, List.cons_append, List.nil_append])
  refine wp_region_plan (by kernel_rfl) (by kernel_rfl) (by kernel_rfl) (by rw [hsz]; kernel_rfl) (fun w => Below w0.heap.size w0 w ∧ Below W.heap.size W w) (fun w w' => Below w.heap.size w w') (fun i w v => ((Mt3Sw gt ti tq tn r v0 v2).getD i .any).holds w v) ⟨bdr hb0, bdr (Below.refl _ _)⟩ (fun w w' j v hb h => Sw.mono _ hb h) ?_ ?_ ?_
  · intro i w v hn h
    have hge := gpAll_ge (by kernel_rfl) hn
    have e : (Mt3Sw gt ti tq tn r v0 v2).getD i .any = .any := by rw [List.getD_eq_getElem?_getD, List.getElem?_eq_none (by exact hge)]; rfl
    rw [e]
    trivial
  · intro i o ho a w hI hk hd
    have hi : i < 15 := (Array.getElem?_eq_some_iff.1 ho).1
    have h0 : a.tmps.getD 0 undef = v0 := (hk.2.2 0 (gpFree_ne (by kernel_rfl))).trans f0
    have h2 : a.tmps.getD 2 undef = v2 := (hk.2.2 2 (gpFree_ne (by kernel_rfl))).trans f2
    have h4 : a.tmps.getD 4 undef = .pointer (some ⟨gt, 0, none⟩) := (hk.2.2 4 (gpFree_ne (by kernel_rfl))).trans f4
    have c0 : w.cell? ⟨gt, 0, none⟩ = some (.int .i64 ti) := cell_call C0 hI.2
    have c1 : w.cell? ⟨gt, 1, none⟩ = some (.string (ba' tn)) := cell_call C1 hI.2
    have c2 : w.cell? ⟨gt, 2, none⟩ = some (.int .i64 tq) := cell_call C2 hI.2
    rcases (by omega : i = 0 ∨ i = 1 ∨ i = 2 ∨ i = 3 ∨ i = 4 ∨ i = 5 ∨ i = 6 ∨ i = 7 ∨ i = 8 ∨ i = 9 ∨ i = 10 ∨ i = 11 ∨ i = 12 ∨ i = 13 ∨ i = 14) with rfl | rfl | rfl | rfl | rfl | rfl | rfl | rfl | rfl | rfl | rfl | rfl | rfl | rfl | rfl
    · simp only [List.getElem?_toArray, List.getElem?_cons_zero, Option.some.injEq] at ho
      subst ho
      rw [if_pos (gp_none rfl)]
      intro K hK
      go_simp
      exact hK _ _ (Below.refl _ _) hI rfl
    · simp only [List.getElem?_toArray, List.getElem?_cons_zero, List.getElem?_cons_succ, Option.some.injEq] at ho
      subst ho
      have h20 : a.tmps.getD 20 undef = .agg #[.int .i64 ti, .string (ba' tn), .int .i64 tq] := hd ⟨0, .data⟩ (by simp) rfl
      have k20 := tmp' h20
      rw [if_pos (gp_none rfl)]
      intro K hK
      go_simp
      exact hK _ _ (ba (Below.refl _ _)) ⟨ba hI.1, ba hI.2⟩ ⟨_, rfl, by simp, rr1_new _ ⟨ti, tn, tq⟩⟩
    · simp only [List.getElem?_toArray, List.getElem?_cons_zero, List.getElem?_cons_succ, Option.some.injEq] at ho
      subst ho
      obtain ⟨sg, hsq, hsg, hrow⟩ : ∃ g, a.tmps.getD 21 undef = .slice (some ⟨g, 0, none⟩) 1 1 ∧ g < w.heap.size ∧ RRow w g [⟨ti, tn, tq⟩] := hd ⟨1, .data⟩ (by simp) rfl
      rw [if_pos (gp_none rfl)]
      intro K hK
      go_simp
      go_at_call 9
      refine (R1.out _ _ hI.1 hsg hrow).mono ?_
      rintro e w' ⟨rfl, hb⟩
      exact hK _ _ hb ⟨bt hI.1 hb, bt hI.2 hb⟩ rfl
    · simp only [List.getElem?_toArray, List.getElem?_cons_zero, List.getElem?_cons_succ, Option.some.injEq] at ho
      subst ho
      rw [if_pos (gp_none rfl)]
      intro K hK
      go_simp
      exact hK _ _ (Below.refl _ _) hI rfl
    · simp only [List.getElem?_toArray, List.getElem?_cons_zero, List.getElem?_cons_succ, Option.some.injEq] at ho
      subst ho
      have h23 : a.tmps.getD 23 undef = .agg #[.int .i64 ti, .string (ba' tn), .int .i64 tq] := hd ⟨3, .data⟩ (by simp) rfl
      rw [if_pos (gp_none rfl)]
      intro K hK
      go_simp
      go_at_call 10
      refine (RF.out _ hI.1).mono ?_
      rintro e w' ⟨rfl, hb⟩
      exact hK _ _ hb ⟨bt hI.1 hb, bt hI.2 hb⟩ rfl
    · simp only [List.getElem?_toArray, List.getElem?_cons_zero, List.getElem?_cons_succ, Option.some.injEq] at ho
      subst ho
      have h22 : a.tmps.getD 22 undef = .bool r := hd ⟨2, .data⟩ (by simp) rfl
      have h24 : a.tmps.getD 24 undef = .bool r := hd ⟨4, .data⟩ (by simp) rfl
      rw [if_pos (gp_none rfl)]
      intro K hK
      go_simp
      exact hK _ _ (Below.refl _ _) hI rfl
    · simp only [List.getElem?_toArray, List.getElem?_cons_zero, List.getElem?_cons_succ, Option.some.injEq] at ho
      subst ho
      have h25 : a.tmps.getD 25 undef = .bool false := hd ⟨5, .data⟩ (by simp) rfl
      rw [if_pos (gp_none rfl)]
      intro K hK
      go_simp
      exact hK _ _ (Below.refl _ _) hI rfl
    · simp only [List.getElem?_toArray, List.getElem?_cons_zero, List.getElem?_cons_succ, Option.some.injEq] at ho
      subst ho
      have h26 : a.tmps.getD 26 undef = .bool false := hd ⟨6, .guard⟩ (by simp) rfl
      have hgv : gpVal _ a 6 = .bool false := hd ⟨6, .guard⟩ (by simp) rfl
      rw [if_pos (by rw [gp_some rfl hgv]; decide)]
      clear hgv
      intro K hK
      go_simp
      go_at_call 11
      refine (IT.out _ hI.1).mono ?_
      rintro e w' ⟨rfl, hb⟩
      exact hK _ _ hb ⟨bt hI.1 hb, bt hI.2 hb⟩ rfl
    · simp only [List.getElem?_toArray, List.getElem?_cons_zero, List.getElem?_cons_succ, Option.some.injEq] at ho
      subst ho
      have h26 : a.tmps.getD 26 undef = .bool false := hd ⟨6, .guard⟩ (by simp) rfl
      have hgv : gpVal _ a 6 = .bool false := hd ⟨6, .guard⟩ (by simp) rfl
      rw [if_pos (by rw [gp_some rfl hgv]; decide)]
      clear hgv
      intro K hK
      go_simp
      exact hK _ _ (Below.refl _ _) hI rfl
    · simp only [List.getElem?_toArray, List.getElem?_cons_zero, List.getElem?_cons_succ, Option.some.injEq] at ho
      subst ho
      have h27 : a.tmps.getD 27 undef = .agg #[.int .i64 1, .string (ba' []), .int .i64 0] := hd ⟨7, .data⟩ (by simp) rfl
      have k27 := tmp' h27
      have h28 : a.tmps.getD 28 undef = .agg #[.int .i64 ti, .string (ba' tn), .int .i64 tq] := hd ⟨8, .data⟩ (by simp) rfl
      have k28 := tmp' h28
      have h26 : a.tmps.getD 26 undef = .bool false := hd ⟨6, .guard⟩ (by simp) rfl
      have k26 := tmp' h26
      have hgv : gpVal _ a 6 = .bool false := hd ⟨6, .guard⟩ (by simp) rfl
      rw [if_pos (by rw [gp_some rfl hgv]; decide)]
      clear hgv
      intro K hK
      go_simp
      exact hK _ _ (ba (Below.refl _ _)) ⟨ba hI.1, ba hI.2⟩ ⟨_, rfl, by simp, rr2_new _ ⟨1, [], 0⟩ ⟨ti, tn, tq⟩⟩
    · simp only [List.getElem?_toArray, List.getElem?_cons_zero, List.getElem?_cons_succ, Option.some.injEq] at ho
      subst ho
      obtain ⟨sg, hsq, hsg, hrow⟩ : ∃ g, a.tmps.getD 29 undef = .slice (some ⟨g, 0, none⟩) 2 2 ∧ g < w.heap.size ∧ RRow w g [⟨1, [], 0⟩, ⟨ti, tn, tq⟩] := hd ⟨9, .data⟩ (by simp) rfl
      have h26 : a.tmps.getD 26 undef = .bool false := hd ⟨6, .guard⟩ (by simp) rfl
      have hgv : gpVal _ a 6 = .bool false := hd ⟨6, .guard⟩ (by simp) rfl
      rw [if_pos (by rw [gp_some rfl hgv]; decide)]
      clear hgv
      intro K hK
      go_simp
      go_at_call 9
      refine (R2.out _ _ hI.1 hsg hrow).mono ?_
      rintro e w' ⟨rfl, hb⟩
      exact hK _ _ hb ⟨bt hI.1 hb, bt hI.2 hb⟩ rfl
    · simp only [List.getElem?_toArray, List.getElem?_cons_zero, List.getElem?_cons_succ, Option.some.injEq] at ho
      subst ho
      have h26 : a.tmps.getD 26 undef = .bool false := hd ⟨6, .guard⟩ (by simp) rfl
      have hgv : gpVal _ a 6 = .bool false := hd ⟨6, .guard⟩ (by simp) rfl
      rw [if_pos (by rw [gp_some rfl hgv]; decide)]
      clear hgv
      intro K hK
      go_simp
      exact hK _ _ (Below.refl _ _) hI rfl
    · simp only [List.getElem?_toArray, List.getElem?_cons_zero, List.getElem?_cons_succ, Option.some.injEq] at ho
      subst ho
      have h31 : a.tmps.getD 31 undef = .agg #[.int .i64 ti, .string (ba' tn), .int .i64 tq] := hd ⟨11, .data⟩ (by simp) rfl
      have h26 : a.tmps.getD 26 undef = .bool false := hd ⟨6, .guard⟩ (by simp) rfl
      have hgv : gpVal _ a 6 = .bool false := hd ⟨6, .guard⟩ (by simp) rfl
      rw [if_pos (by rw [gp_some rfl hgv]; decide)]
      clear hgv
      intro K hK
      go_simp
      go_at_call 10
      refine (RF.out _ hI.1).mono ?_
      rintro e w' ⟨rfl, hb⟩
      exact hK _ _ hb ⟨bt hI.1 hb, bt hI.2 hb⟩ rfl
    · simp only [List.getElem?_toArray, List.getElem?_cons_zero, List.getElem?_cons_succ, Option.some.injEq] at ho
      subst ho
      have h30 : a.tmps.getD 30 undef = .bool r := hd ⟨10, .data⟩ (by simp) rfl
      have h32 : a.tmps.getD 32 undef = .bool r := hd ⟨12, .data⟩ (by simp) rfl
      have h26 : a.tmps.getD 26 undef = .bool false := hd ⟨6, .guard⟩ (by simp) rfl
      have hgv : gpVal _ a 6 = .bool false := hd ⟨6, .guard⟩ (by simp) rfl
      rw [if_pos (by rw [gp_some rfl hgv]; decide)]
      clear hgv
      intro K hK
      go_simp
      exact hK _ _ (Below.refl _ _) hI rfl
    · simp only [List.getElem?_toArray, List.getElem?_cons_zero, List.getElem?_cons_succ, Option.some.injEq] at ho
      subst ho
      have h26 : a.tmps.getD 26 undef = .bool false := hd ⟨6, .data⟩ (by simp) rfl
      have h33 : a.tmps.getD 33 undef = .bool false := hd ⟨13, .data⟩ (by simp) rfl
      rw [if_pos (gp_none rfl)]
      intro K hK
      go_simp
      exact hK _ _ (Below.refl _ _) hI rfl
  · intro a w hI hk hs
    exact hQ a w hk.1 (hk.2.1.trans hsz) (hs 14 (of_decide_eq_true (by kernel_rfl))) ((hk.2.2 0 (gpFree_ne (by kernel_rfl))).trans f0) ((hk.2.2 2 (gpFree_ne (by kernel_rfl))).trans f2) ((hk.2.2 4 (gpFree_ne (by kernel_rfl))).trans f4) hI.1
def Mt8Sw (_gt sb : Nat) (zi zo : Nat) (zn : List UInt8) (m : Bool) (Ai Al : Option Addr) (ni ka nl kl : Nat) (xs : List It) : List Sw := [.val (.pointer (some ⟨sb, 0, none⟩)), .val (.bool false), .val (.bool false), .val (.pointer (some ⟨sb, 0, none⟩)), .val (.agg #[.int .i64 (zi : Nat), .string (ba' zn), .int .i64 (zo : Nat)]), .nw, .val (.slice Ai ni ka), .it xs ni, .val (.bool m), .val (.slice Al nl kl), .val (.agg #[.int .i64 (zi : Nat), .string (ba' zn), .int .i64 (zo : Nat)]), .val (.slice Ai ni ka), .val (.bool m), .val (.bool false), .val (.bool false)]
set_option maxHeartbeats 16000000 in
theorem Mt8_region (gt sb : Nat) (zi zo : Nat) (zn : List UInt8) (m : Bool) (Ai Al : Option Addr) (ni ka nl kl : Nat) (xs : List It) (w0 : World) {W : World} {Q : Exit → Act → World → Prop} {a0 : Act} (hsz : a0.tmps.size = 102) (f2 : a0.tmps.getD 2 undef = .slice Ai ni ka) (f4 : a0.tmps.getD 4 undef = .pointer (some ⟨gt, 0, none⟩)) (f7 : a0.tmps.getD 7 undef = .pointer (some ⟨sb, 0, none⟩)) (f8 : a0.tmps.getD 8 undef = .slice Al nl kl) (hb0 : Below w0.heap.size w0 W) (C0 : W.cell? ⟨gt, 0, none⟩ = some (.int .i64 (zi : Nat))) (C1 : W.cell? ⟨gt, 1, none⟩ = some (.string (ba' zn))) (C2 : W.cell? ⟨gt, 2, none⟩ = some (.int .i64 (zo : Nat))) (HI0 : Hid (IRow6 W Ai xs)) (hxs : xs.length = ni) (hni : ni ≤ 1048576) (M1 : Hid (∀ w1 A1 c1, Below w0.heap.size w0 w1 → IRow6 w1 A1 xs → Calls Tryd.prog 13 #[.pointer (some ⟨sb, 0, none⟩), .agg #[.int .i64 (zi : Nat), .string (ba' zn), .int .i64 (zo : Nat)], .slice A1 ni c1] w1 fun e w' => e = .returned (.bool m) ∧ Below w1.heap.size w1 w')) (M2 : Hid (∀ w1, Below w0.heap.size w0 w1 → Calls Tryd.prog 14 #[.slice Al nl kl, .agg #[.int .i64 (zi : Nat), .string (ba' zn), .int .i64 (zo : Nat)], .slice Ai ni ka] w1 fun e w' => e = .returned (.bool m) ∧ Below w1.heap.size w1 w'))
    (hQ : ∀ (A : Act) (w : World), A.defers = a0.defers → A.tmps.size = 102 → A.tmps.getD 63 undef = .bool false → A.tmps.getD 2 undef = .slice Ai ni ka → A.tmps.getD 4 undef = .pointer (some ⟨gt, 0, none⟩) → A.tmps.getD 7 undef = .pointer (some ⟨sb, 0, none⟩) → A.tmps.getD 8 undef = .slice Al nl kl → Below w0.heap.size w0 w → Q .normal A w) :
    Code.wp Tryd.prog ((Tryd.f3.body.bind (regionOf 8)).getD .skip) Q a0 W := by
  conv => arg 2; whnf
  (try simp only [List.append_eq, List.cons_append, List.nil_append])
  refine wp_region_plan (by kernel_rfl) (by kernel_rfl) (by kernel_rfl) (by rw [hsz]; kernel_rfl) (fun w => Below w0.heap.size w0 w ∧ Below W.heap.size W w) (fun w w' => Below w.heap.size w w') (fun i w v => ((Mt8Sw gt sb zi zo zn m Ai Al ni ka nl kl xs).getD i .any).holds w v) ⟨bdr hb0, bdr (Below.refl _ _)⟩ (fun w w' j v hb h => Sw.mono _ hb h) ?_ ?_ ?_
  · intro i w v hn h
    have hge := gpAll_ge (by kernel_rfl) hn
    have e : (Mt8Sw gt sb zi zo zn m Ai Al ni ka nl kl xs).getD i .any = .any := by rw [List.getD_eq_getElem?_getD, List.getElem?_eq_none (by exact hge)]; rfl
    rw [e]
    trivial
  · intro i o ho a w hI hk hd
    have hi : i < 15 := (Array.getElem?_eq_some_iff.1 ho).1
    have h2 : a.tmps.getD 2 undef = .slice Ai ni ka := (hk.2.2 2 (gpFree_ne (by kernel_rfl))).trans f2
    have h4 : a.tmps.getD 4 undef = .pointer (some ⟨gt, 0, none⟩) := (hk.2.2 4 (gpFree_ne (by kernel_rfl))).trans f4
    have h7 : a.tmps.getD 7 undef = .pointer (some ⟨sb, 0, none⟩) := (hk.2.2 7 (gpFree_ne (by kernel_rfl))).trans f7
    have h8 : a.tmps.getD 8 undef = .slice Al nl kl := (hk.2.2 8 (gpFree_ne (by kernel_rfl))).trans f8
    have c0 : w.cell? ⟨gt, 0, none⟩ = some (.int .i64 (zi : Nat)) := cell_call C0 hI.2
    have c1 : w.cell? ⟨gt, 1, none⟩ = some (.string (ba' zn)) := cell_call C1 hI.2
    have c2 : w.cell? ⟨gt, 2, none⟩ = some (.int .i64 (zo : Nat)) := cell_call C2 hI.2
    rcases (by omega : i = 0 ∨ i = 1 ∨ i = 2 ∨ i = 3 ∨ i = 4 ∨ i = 5 ∨ i = 6 ∨ i = 7 ∨ i = 8 ∨ i = 9 ∨ i = 10 ∨ i = 11 ∨ i = 12 ∨ i = 13 ∨ i = 14) with rfl | rfl | rfl | rfl | rfl | rfl | rfl | rfl | rfl | rfl | rfl | rfl | rfl | rfl | rfl
    · simp only [List.getElem?_toArray, List.getElem?_cons_zero, Option.some.injEq] at ho
      subst ho
      rw [if_pos (gp_none rfl)]
      intro K hK
      go_simp
      exact hK _ _ (Below.refl _ _) hI rfl
    · simp only [List.getElem?_toArray, List.getElem?_cons_zero, List.getElem?_cons_succ, Option.some.injEq] at ho
      subst ho
      have h49 : a.tmps.getD 49 undef = .pointer (some ⟨sb, 0, none⟩) := hd ⟨0, .data⟩ (by simp) rfl
      rw [if_pos (gp_none rfl)]
      intro K hK
      go_simp
      exact hK _ _ (Below.refl _ _) hI rfl
    · simp only [List.getElem?_toArray, List.getElem?_cons_zero, List.getElem?_cons_succ, Option.some.injEq] at ho
      subst ho
      have h50 : a.tmps.getD 50 undef = .bool false := hd ⟨1, .data⟩ (by simp) rfl
      rw [if_pos (gp_none rfl)]
      intro K hK
      go_simp
      exact hK _ _ (Below.refl _ _) hI rfl
    · simp only [List.getElem?_toArray, List.getElem?_cons_zero, List.getElem?_cons_succ, Option.some.injEq] at ho
      subst ho
      have h51 : a.tmps.getD 51 undef = .bool false := hd ⟨2, .guard⟩ (by simp) rfl
      have hgv : gpVal _ a 2 = .bool false := hd ⟨2, .guard⟩ (by simp) rfl
      rw [if_pos (by rw [gp_some rfl hgv]; decide)]
      clear hgv
      intro K hK
      go_simp
      exact hK _ _ (Below.refl _ _) hI rfl
    · simp only [List.getElem?_toArray, List.getElem?_cons_zero, List.getElem?_cons_succ, Option.some.injEq] at ho
      subst ho
      have h51 : a.tmps.getD 51 undef = .bool false := hd ⟨2, .guard⟩ (by simp) rfl
      have hgv : gpVal _ a 2 = .bool false := hd ⟨2, .guard⟩ (by simp) rfl
      rw [if_pos (by rw [gp_some rfl hgv]; decide)]
      clear hgv
      intro K hK
      go_simp
      exact hK _ _ (Below.refl _ _) hI rfl
    · simp only [List.getElem?_toArray, List.getElem?_cons_zero, List.getElem?_cons_succ, Option.some.injEq] at ho
      subst ho
      have h51 : a.tmps.getD 51 undef = .bool false := hd ⟨2, .guard⟩ (by simp) rfl
      have k51 := tmp' h51
      have hgv : gpVal _ a 2 = .bool false := hd ⟨2, .guard⟩ (by simp) rfl
      rw [if_pos (by rw [gp_some rfl hgv]; decide)]
      clear hgv
      intro K hK
      go_simp
      exact hK _ _ (ba (Below.refl _ _)) ⟨ba hI.1, ba hI.2⟩ ⟨_, rfl, heap_alloc_new _ _⟩
    · simp only [List.getElem?_toArray, List.getElem?_cons_zero, List.getElem?_cons_succ, Option.some.injEq] at ho
      subst ho
      have h51 : a.tmps.getD 51 undef = .bool false := hd ⟨2, .guard⟩ (by simp) rfl
      have hgv : gpVal _ a 2 = .bool false := hd ⟨2, .guard⟩ (by simp) rfl
      rw [if_pos (by rw [gp_some rfl hgv]; decide)]
      clear hgv
      intro K hK
      go_simp
      exact hK _ _ (Below.refl _ _) hI rfl
    · simp only [List.getElem?_toArray, List.getElem?_cons_zero, List.getElem?_cons_succ, Option.some.injEq] at ho
      subst ho
      obtain ⟨sg, hsq, hsg⟩ : ∃ g, a.tmps.getD 54 undef = .slice (some ⟨g, 0, none⟩) 0 0 ∧ w.heap[g]? = some (.cells #[] 43 (0, 0)) := hd ⟨5, .data⟩ (by simp) rfl
      have h55 : a.tmps.getD 55 undef = .slice Ai ni ka := hd ⟨6, .data⟩ (by simp) rfl
      have h51 : a.tmps.getD 51 undef = .bool false := hd ⟨2, .guard⟩ (by simp) rfl
      have hgv : gpVal _ a 2 = .bool false := hd ⟨2, .guard⟩ (by simp) rfl
      rw [if_pos (by rw [gp_some rfl hgv]; decide)]
      clear hgv
      intro K hK
      refine wp_append_fresh _ _ rfl 0 sg Ai ni ka xs hsq h55 (HI0.out.below hI.2) hxs hni hsg (Nat.zero_le _) ?_
      intro v' w' hown hb
      obtain ⟨A', c', rfl, hr'⟩ := irow_own hown
      exact hK _ _ hb ⟨bt hI.1 hb, bt hI.2 hb⟩ ⟨A', c', rfl, hr'⟩
    · simp only [List.getElem?_toArray, List.getElem?_cons_zero, List.getElem?_cons_succ, Option.some.injEq] at ho
      subst ho
      have h52 : a.tmps.getD 52 undef = .pointer (some ⟨sb, 0, none⟩) := hd ⟨3, .data⟩ (by simp) rfl
      have h53 : a.tmps.getD 53 undef = .agg #[.int .i64 (zi : Nat), .string (ba' zn), .int .i64 (zo : Nat)] := hd ⟨4, .data⟩ (by simp) rfl
      obtain ⟨sA, sc, hsq, hrow⟩ : ∃ A c, a.tmps.getD 56 undef = .slice A ni c ∧ IRow6 w A xs := hd ⟨7, .data⟩ (by simp) rfl
      have h51 : a.tmps.getD 51 undef = .bool false := hd ⟨2, .guard⟩ (by simp) rfl
      have hgv : gpVal _ a 2 = .bool false := hd ⟨2, .guard⟩ (by simp) rfl
      rw [if_pos (by rw [gp_some rfl hgv]; decide)]
      clear hgv
      intro K hK
      go_simp
      go_at_call 13
      refine (M1.out _ _ _ hI.1 hrow).mono ?_
      rintro e w' ⟨rfl, hb⟩
      exact hK _ _ hb ⟨bt hI.1 hb, bt hI.2 hb⟩ rfl
    · simp only [List.getElem?_toArray, List.getElem?_cons_zero, List.getElem?_cons_succ, Option.some.injEq] at ho
      subst ho
      have h51 : a.tmps.getD 51 undef = .bool false := hd ⟨2, .guard⟩ (by simp) rfl
      have hgv : gpVal _ a 2 = .bool false := hd ⟨2, .guard⟩ (by simp) rfl
      rw [if_pos (by rw [gp_some rfl hgv]; decide)]
      clear hgv
      intro K hK
      go_simp
      exact hK _ _ (Below.refl _ _) hI rfl
    · simp only [List.getElem?_toArray, List.getElem?_cons_zero, List.getElem?_cons_succ, Option.some.injEq] at ho
      subst ho
      have h51 : a.tmps.getD 51 undef = .bool false := hd ⟨2, .guard⟩ (by simp) rfl
      have hgv : gpVal _ a 2 = .bool false := hd ⟨2, .guard⟩ (by simp) rfl
      rw [if_pos (by rw [gp_some rfl hgv]; decide)]
      clear hgv
      intro K hK
      go_simp
      exact hK _ _ (Below.refl _ _) hI rfl
    · simp only [List.getElem?_toArray, List.getElem?_cons_zero, List.getElem?_cons_succ, Option.some.injEq] at ho
      subst ho
      have h51 : a.tmps.getD 51 undef = .bool false := hd ⟨2, .guard⟩ (by simp) rfl
      have hgv : gpVal _ a 2 = .bool false := hd ⟨2, .guard⟩ (by simp) rfl
      rw [if_pos (by rw [gp_some rfl hgv]; decide)]
      clear hgv
      intro K hK
      go_simp
      exact hK _ _ (Below.refl _ _) hI rfl
    · simp only [List.getElem?_toArray, List.getElem?_cons_zero, List.getElem?_cons_succ, Option.some.injEq] at ho
      subst ho
      have h58 : a.tmps.getD 58 undef = .slice Al nl kl := hd ⟨9, .data⟩ (by simp) rfl
      have h59 : a.tmps.getD 59 undef = .agg #[.int .i64 (zi : Nat), .string (ba' zn), .int .i64 (zo : Nat)] := hd ⟨10, .data⟩ (by simp) rfl
      have h60 : a.tmps.getD 60 undef = .slice Ai ni ka := hd ⟨11, .data⟩ (by simp) rfl
      have h51 : a.tmps.getD 51 undef = .bool false := hd ⟨2, .guard⟩ (by simp) rfl
      have hgv : gpVal _ a 2 = .bool false := hd ⟨2, .guard⟩ (by simp) rfl
      rw [if_pos (by rw [gp_some rfl hgv]; decide)]
      clear hgv
      intro K hK
      go_simp
      go_at_call 14
      refine (M2.out _ hI.1).mono ?_
      rintro e w' ⟨rfl, hb⟩
      exact hK _ _ hb ⟨bt hI.1 hb, bt hI.2 hb⟩ rfl
    · simp only [List.getElem?_toArray, List.getElem?_cons_zero, List.getElem?_cons_succ, Option.some.injEq] at ho
      subst ho
      have h57 : a.tmps.getD 57 undef = .bool m := hd ⟨8, .data⟩ (by simp) rfl
      have h61 : a.tmps.getD 61 undef = .bool m := hd ⟨12, .data⟩ (by simp) rfl
      have h51 : a.tmps.getD 51 undef = .bool false := hd ⟨2, .guard⟩ (by simp) rfl
      have hgv : gpVal _ a 2 = .bool false := hd ⟨2, .guard⟩ (by simp) rfl
      rw [if_pos (by rw [gp_some rfl hgv]; decide)]
      clear hgv
      intro K hK
      go_simp
      exact hK _ _ (Below.refl _ _) hI rfl
    · simp only [List.getElem?_toArray, List.getElem?_cons_zero, List.getElem?_cons_succ, Option.some.injEq] at ho
      subst ho
      have h51 : a.tmps.getD 51 undef = .bool false := hd ⟨2, .data⟩ (by simp) rfl
      have h62 : a.tmps.getD 62 undef = .bool false := hd ⟨13, .data⟩ (by simp) rfl
      rw [if_pos (gp_none rfl)]
      intro K hK
      go_simp
      exact hK _ _ (Below.refl _ _) hI rfl
  · intro a w hI hk hs
    exact hQ a w hk.1 (hk.2.1.trans hsz) (hs 14 (of_decide_eq_true (by kernel_rfl))) ((hk.2.2 2 (gpFree_ne (by kernel_rfl))).trans f2) ((hk.2.2 4 (gpFree_ne (by kernel_rfl))).trans f4) ((hk.2.2 7 (gpFree_ne (by kernel_rfl))).trans f7) ((hk.2.2 8 (gpFree_ne (by kernel_rfl))).trans f8) hI.1
end Go.Proofs.YtjpopmgnhgancaaDoor
