/- The statement TypesHold: regions that draw their order. No condition beyond what the theorems state. -/
import Derived.Test.YtjpopmgnhgancaaDoorRegWords
import Derived.Lib.Builder
namespace Go.Proofs.YtjpopmgnhgancaaDoor
open Go.RowKit Go.Lib
set_option maxRecDepth 100000
def HoFSp (_ga _gb _gc sb : Nat) (ai ao : Nat) (an : List UInt8) (bi bo : Nat) (bn : List UInt8) (_ci _co : Nat) (_cn : List UInt8) (pi po : Nat) (pn : List UInt8) (_Ai _Bi : Option Addr) (_ni _ka _mi _kb : Nat) : List Sp := [.val (.pointer (some ⟨sb, 0, none⟩)), .val (.bool false), .val (.bool false), .val (.agg #[.int .i64 (ai : Nat), .string (ba' an), .int .i64 (ao : Nat)]), .val (.agg #[.int .i64 (bi : Nat), .string (ba' bn), .int .i64 (bo : Nat)]), .val (.bool false), .val (.bool false), .val (undef), .val (undef), .val (undef), .val (.bool false), .val (.bool false), .val (undef), .val (undef), .val (undef), .val (undef), .val (.bool false), .val (.bool false), .val (.bool false), .val (.agg #[.int .i64 (ai : Nat), .string (ba' an), .int .i64 (ao : Nat)]), .val (.agg #[.int .i64 (ai : Nat), .string (ba' an), .int .i64 (ao : Nat)]), .val (.bool true), .val (.bool false), .val (.bool false), .val (.bool false), .val (.agg #[.int .i64 (ai : Nat), .string (ba' an), .int .i64 (ao : Nat)]), .val (.agg #[.int .i64 (ai : Nat), .string (ba' an), .int .i64 (ao : Nat)]), .val (.agg #[.int .i64 (bi : Nat), .string (ba' bn), .int .i64 (bo : Nat)]), .sl [⟨⟨ai, an⟩, ao⟩, ⟨⟨bi, bn⟩, bo⟩] 2, .val (.agg #[.int .i64 (pi : Nat), .string (ba' pn), .int .i64 (po : Nat)]), .val (.bool true), .val (.bool false), .val (.bool false), .val (.bool false), .val (.agg #[.int .i64 (bi : Nat), .string (ba' bn), .int .i64 (bo : Nat)]), .val (.agg #[.int .i64 (ai : Nat), .string (ba' an), .int .i64 (ao : Nat)]), .val (.agg #[.int .i64 (bi : Nat), .string (ba' bn), .int .i64 (bo : Nat)]), .sl [⟨⟨ai, an⟩, ao⟩, ⟨⟨bi, bn⟩, bo⟩] 2, .val (.agg #[.int .i64 (pi : Nat), .string (ba' pn), .int .i64 (po : Nat)]), .val (.bool true), .val (.bool false), .val (.bool false)]
set_option maxHeartbeats 16000000 in
theorem HoF_region (ga gb gc sb : Nat) (ai ao : Nat) (an : List UInt8) (bi bo : Nat) (bn : List UInt8) (ci co : Nat) (cn : List UInt8) (pi po : Nat) (pn : List UInt8) (Ai Bi : Option Addr) (ni ka mi kb : Nat) (w0 : World) {W : World} {Q : Exit → Act → World → Prop} {a0 : Act} (hsz : a0.tmps.size = 160) (f2 : a0.tmps.getD 2 undef = .slice Ai ni ka) (f7 : a0.tmps.getD 7 undef = .pointer (some ⟨ga, 0, none⟩)) (f8 : a0.tmps.getD 8 undef = .pointer (some ⟨gb, 0, none⟩)) (f9 : a0.tmps.getD 9 undef = .pointer (some ⟨gc, 0, none⟩)) (f10 : a0.tmps.getD 10 undef = .slice Bi mi kb) (f11 : a0.tmps.getD 11 undef = .pointer (some ⟨sb, 0, none⟩)) (hb0 : Below w0.heap.size w0 W) (C0 : W.cell? ⟨ga, 0, none⟩ = some (.int .i64 (ai : Nat))) (C1 : W.cell? ⟨ga, 1, none⟩ = some (.string (ba' an))) (C2 : W.cell? ⟨ga, 2, none⟩ = some (.int .i64 (ao : Nat))) (C3 : W.cell? ⟨gb, 0, none⟩ = some (.int .i64 (bi : Nat))) (C4 : W.cell? ⟨gb, 1, none⟩ = some (.string (ba' bn))) (C5 : W.cell? ⟨gb, 2, none⟩ = some (.int .i64 (bo : Nat))) (C6 : W.cell? ⟨gc, 0, none⟩ = some (.int .i64 (ci : Nat))) (C7 : W.cell? ⟨gc, 1, none⟩ = some (.string (ba' cn))) (C8 : W.cell? ⟨gc, 2, none⟩ = some (.int .i64 (co : Nat))) (S1 : Hid (∀ w1, Below w0.heap.size w0 w1 → Calls Tryd.prog 22 #[.agg #[.int .i64 (ai : Nat), .string (ba' an), .int .i64 (ao : Nat)], .agg #[.int .i64 (bi : Nat), .string (ba' bn), .int .i64 (bo : Nat)]] w1 fun e w' => e = .returned (.bool false) ∧ Below w1.heap.size w1 w')) (S4 : Hid (∀ w1, Below w0.heap.size w0 w1 → Calls Tryd.prog 22 #[.agg #[.int .i64 (ai : Nat), .string (ba' an), .int .i64 (ao : Nat)], .agg #[.int .i64 (ai : Nat), .string (ba' an), .int .i64 (ao : Nat)]] w1 fun e w' => e = .returned (.bool true) ∧ Below w1.heap.size w1 w')) (S5 : Hid (∀ w1, Below w0.heap.size w0 w1 → Calls Tryd.prog 22 #[.agg #[.int .i64 (ai : Nat), .string (ba' an), .int .i64 (ao : Nat)], .agg #[.int .i64 (pi : Nat), .string (ba' pn), .int .i64 (po : Nat)]] w1 fun e w' => e = .returned (.bool true) ∧ Below w1.heap.size w1 w')) (S6 : Hid (∀ w1, Below w0.heap.size w0 w1 → Calls Tryd.prog 22 #[.agg #[.int .i64 (bi : Nat), .string (ba' bn), .int .i64 (bo : Nat)], .agg #[.int .i64 (pi : Nat), .string (ba' pn), .int .i64 (po : Nat)]] w1 fun e w' => e = .returned (.bool true) ∧ Below w1.heap.size w1 w')) (E1 : Hid (∀ w1 g, Below w0.heap.size w0 w1 → g < w1.heap.size → TRow w1 g [⟨⟨ai, an⟩, ao⟩, ⟨⟨bi, bn⟩, bo⟩] → Calls Tryd.prog 19 #[.slice (some ⟨g, 0, none⟩) 2 2] w1 fun e w' => e = .returned (.agg #[.int .i64 (pi : Nat), .string (ba' pn), .int .i64 (po : Nat)]) ∧ Below w1.heap.size w1 w'))
    (hQ : ∀ (A : Act) (w : World), A.defers = a0.defers → A.tmps.size = 160 → A.tmps.getD 106 undef = .bool false → A.tmps.getD 2 undef = .slice Ai ni ka → A.tmps.getD 7 undef = .pointer (some ⟨ga, 0, none⟩) → A.tmps.getD 8 undef = .pointer (some ⟨gb, 0, none⟩) → A.tmps.getD 9 undef = .pointer (some ⟨gc, 0, none⟩) → A.tmps.getD 10 undef = .slice Bi mi kb → A.tmps.getD 11 undef = .pointer (some ⟨sb, 0, none⟩) → Below w0.heap.size w0 w → Q .normal A w) :
    Code.wp Tryd.prog ((Tryd.f5.body.bind (regionOf 7)).getD .skip) Q a0 W := by
  conv => arg 2; whnf
  (try simp only [List.append_eq, List.cons_append, List.nil_append])
  refine wp_region_plan (by kernel_rfl) (by kernel_rfl) (by kernel_rfl) (by rw [hsz]; kernel_rfl) (fun w => Below w0.heap.size w0 w ∧ Below W.heap.size W w) (fun w w' => Below w.heap.size w w') (fun i w v => ((HoFSp ga gb gc sb ai ao an bi bo bn ci co cn pi po pn Ai Bi ni ka mi kb).getD i .any).holds w v) ⟨bdr hb0, bdr (Below.refl _ _)⟩ (fun w w' j v hb h => Sp.mono _ hb h) ?_ ?_ ?_
  · intro i w v hn h
    have hge := gpAll_ge (by kernel_rfl) hn
    have e : (HoFSp ga gb gc sb ai ao an bi bo bn ci co cn pi po pn Ai Bi ni ka mi kb).getD i .any = .any := by rw [List.getD_eq_getElem?_getD, List.getElem?_eq_none (by exact hge)]; rfl
    rw [e]
    trivial
  · intro i o ho a w hI hk hd
    have hi : i < 42 := (Array.getElem?_eq_some_iff.1 ho).1
    have h2 : a.tmps.getD 2 undef = .slice Ai ni ka := (hk.2.2 2 (gpFree_ne (by kernel_rfl))).trans f2
    have h7 : a.tmps.getD 7 undef = .pointer (some ⟨ga, 0, none⟩) := (hk.2.2 7 (gpFree_ne (by kernel_rfl))).trans f7
    have h8 : a.tmps.getD 8 undef = .pointer (some ⟨gb, 0, none⟩) := (hk.2.2 8 (gpFree_ne (by kernel_rfl))).trans f8
    have h9 : a.tmps.getD 9 undef = .pointer (some ⟨gc, 0, none⟩) := (hk.2.2 9 (gpFree_ne (by kernel_rfl))).trans f9
    have h10 : a.tmps.getD 10 undef = .slice Bi mi kb := (hk.2.2 10 (gpFree_ne (by kernel_rfl))).trans f10
    have h11 : a.tmps.getD 11 undef = .pointer (some ⟨sb, 0, none⟩) := (hk.2.2 11 (gpFree_ne (by kernel_rfl))).trans f11
    have c0 : w.cell? ⟨ga, 0, none⟩ = some (.int .i64 (ai : Nat)) := cell_call C0 hI.2
    have c1 : w.cell? ⟨ga, 1, none⟩ = some (.string (ba' an)) := cell_call C1 hI.2
    have c2 : w.cell? ⟨ga, 2, none⟩ = some (.int .i64 (ao : Nat)) := cell_call C2 hI.2
    have c3 : w.cell? ⟨gb, 0, none⟩ = some (.int .i64 (bi : Nat)) := cell_call C3 hI.2
    have c4 : w.cell? ⟨gb, 1, none⟩ = some (.string (ba' bn)) := cell_call C4 hI.2
    have c5 : w.cell? ⟨gb, 2, none⟩ = some (.int .i64 (bo : Nat)) := cell_call C5 hI.2
    have c6 : w.cell? ⟨gc, 0, none⟩ = some (.int .i64 (ci : Nat)) := cell_call C6 hI.2
    have c7 : w.cell? ⟨gc, 1, none⟩ = some (.string (ba' cn)) := cell_call C7 hI.2
    have c8 : w.cell? ⟨gc, 2, none⟩ = some (.int .i64 (co : Nat)) := cell_call C8 hI.2
    rcases (by omega : i = 0 ∨ i = 1 ∨ i = 2 ∨ i = 3 ∨ i = 4 ∨ i = 5 ∨ i = 6 ∨ i = 7 ∨ i = 8 ∨ i = 9 ∨ i = 10 ∨ i = 11 ∨ i = 12 ∨ i = 13 ∨ i = 14 ∨ i = 15 ∨ i = 16 ∨ i = 17 ∨ i = 18 ∨ i = 19 ∨ i = 20 ∨ i = 21 ∨ i = 22 ∨ i = 23 ∨ i = 24 ∨ i = 25 ∨ i = 26 ∨ i = 27 ∨ i = 28 ∨ i = 29 ∨ i = 30 ∨ i = 31 ∨ i = 32 ∨ i = 33 ∨ i = 34 ∨ i = 35 ∨ i = 36 ∨ i = 37 ∨ i = 38 ∨ i = 39 ∨ i = 40 ∨ i = 41) with rfl | rfl | rfl | rfl | rfl | rfl | rfl | rfl | rfl | rfl | rfl | rfl | rfl | rfl | rfl | rfl | rfl | rfl | rfl | rfl | rfl | rfl | rfl | rfl | rfl | rfl | rfl | rfl | rfl | rfl | rfl | rfl | rfl | rfl | rfl | rfl | rfl | rfl | rfl | rfl | rfl | rfl
    · simp only [List.getElem?_toArray, List.getElem?_cons_zero, Option.some.injEq] at ho
      subst ho
      rw [if_pos (gp_none rfl)]
      intro K hK
      go_simp
      exact hK _ _ (Below.refl _ _) hI rfl
    · simp only [List.getElem?_toArray, List.getElem?_cons_zero, List.getElem?_cons_succ, Option.some.injEq] at ho
      subst ho
      have h65 : a.tmps.getD 65 undef = .pointer (some ⟨sb, 0, none⟩) := hd ⟨0, .data⟩ (by simp) rfl
      rw [if_pos (gp_none rfl)]
      intro K hK
      go_simp
      exact hK _ _ (Below.refl _ _) hI rfl
    · simp only [List.getElem?_toArray, List.getElem?_cons_zero, List.getElem?_cons_succ, Option.some.injEq] at ho
      subst ho
      have h66 : a.tmps.getD 66 undef = .bool false := hd ⟨1, .data⟩ (by simp) rfl
      rw [if_pos (gp_none rfl)]
      intro K hK
      go_simp
      exact hK _ _ (Below.refl _ _) hI rfl
    · simp only [List.getElem?_toArray, List.getElem?_cons_zero, List.getElem?_cons_succ, Option.some.injEq] at ho
      subst ho
      have h67 : a.tmps.getD 67 undef = .bool false := hd ⟨2, .guard⟩ (by simp) rfl
      have hgv : gpVal _ a 2 = .bool false := hd ⟨2, .guard⟩ (by simp) rfl
      rw [if_pos (by rw [gp_some rfl hgv]; decide)]
      clear hgv
      intro K hK
      go_simp
      exact hK _ _ (Below.refl _ _) hI rfl
    · simp only [List.getElem?_toArray, List.getElem?_cons_zero, List.getElem?_cons_succ, Option.some.injEq] at ho
      subst ho
      have h67 : a.tmps.getD 67 undef = .bool false := hd ⟨2, .guard⟩ (by simp) rfl
      have hgv : gpVal _ a 2 = .bool false := hd ⟨2, .guard⟩ (by simp) rfl
      rw [if_pos (by rw [gp_some rfl hgv]; decide)]
      clear hgv
      intro K hK
      go_simp
      exact hK _ _ (Below.refl _ _) hI rfl
    · simp only [List.getElem?_toArray, List.getElem?_cons_zero, List.getElem?_cons_succ, Option.some.injEq] at ho
      subst ho
      have h68 : a.tmps.getD 68 undef = .agg #[.int .i64 (ai : Nat), .string (ba' an), .int .i64 (ao : Nat)] := hd ⟨3, .data⟩ (by simp) rfl
      have h69 : a.tmps.getD 69 undef = .agg #[.int .i64 (bi : Nat), .string (ba' bn), .int .i64 (bo : Nat)] := hd ⟨4, .data⟩ (by simp) rfl
      have h67 : a.tmps.getD 67 undef = .bool false := hd ⟨2, .guard⟩ (by simp) rfl
      have hgv : gpVal _ a 2 = .bool false := hd ⟨2, .guard⟩ (by simp) rfl
      rw [if_pos (by rw [gp_some rfl hgv]; decide)]
      clear hgv
      intro K hK
      go_simp
      go_at_call 22
      refine (S1.out _ hI.1).mono ?_
      rintro e w' ⟨rfl, hb⟩
      exact hK _ _ hb ⟨bt hI.1 hb, bt hI.2 hb⟩ rfl
    · simp only [List.getElem?_toArray, List.getElem?_cons_zero, List.getElem?_cons_succ, Option.some.injEq] at ho
      subst ho
      have h70 : a.tmps.getD 70 undef = .bool false := hd ⟨5, .data⟩ (by simp) rfl
      have h67 : a.tmps.getD 67 undef = .bool false := hd ⟨2, .guard⟩ (by simp) rfl
      have hgv : gpVal _ a 2 = .bool false := hd ⟨2, .guard⟩ (by simp) rfl
      rw [if_pos (by rw [gp_some rfl hgv]; decide)]
      clear hgv
      intro K hK
      go_simp
      exact hK _ _ (Below.refl _ _) hI rfl
    · simp only [List.getElem?_toArray, List.getElem?_cons_zero, List.getElem?_cons_succ, Option.some.injEq] at ho
      subst ho
      have h71 : a.tmps.getD 71 undef = .bool false := hd ⟨6, .guard⟩ (by simp) rfl
      have hgv : gpVal _ a 6 = .bool false := hd ⟨6, .guard⟩ (by simp) rfl
      rw [if_neg (by rw [gp_some rfl hgv]; decide)]
      clear hgv
      exact ⟨rfl, Below.refl _ _⟩
    · simp only [List.getElem?_toArray, List.getElem?_cons_zero, List.getElem?_cons_succ, Option.some.injEq] at ho
      subst ho
      have h71 : a.tmps.getD 71 undef = .bool false := hd ⟨6, .guard⟩ (by simp) rfl
      have hgv : gpVal _ a 6 = .bool false := hd ⟨6, .guard⟩ (by simp) rfl
      rw [if_neg (by rw [gp_some rfl hgv]; decide)]
      clear hgv
      exact ⟨rfl, Below.refl _ _⟩
    · simp only [List.getElem?_toArray, List.getElem?_cons_zero, List.getElem?_cons_succ, Option.some.injEq] at ho
      subst ho
      have h72 : a.tmps.getD 72 undef = undef := hd ⟨7, .data⟩ (by simp) rfl
      have h73 : a.tmps.getD 73 undef = undef := hd ⟨8, .data⟩ (by simp) rfl
      have h71 : a.tmps.getD 71 undef = .bool false := hd ⟨6, .guard⟩ (by simp) rfl
      have hgv : gpVal _ a 6 = .bool false := hd ⟨6, .guard⟩ (by simp) rfl
      rw [if_neg (by rw [gp_some rfl hgv]; decide)]
      clear hgv
      exact ⟨rfl, Below.refl _ _⟩
    · simp only [List.getElem?_toArray, List.getElem?_cons_zero, List.getElem?_cons_succ, Option.some.injEq] at ho
      subst ho
      have h71 : a.tmps.getD 71 undef = .bool false := hd ⟨6, .data⟩ (by simp) rfl
      have h74 : a.tmps.getD 74 undef = undef := hd ⟨9, .data⟩ (by simp) rfl
      have h67 : a.tmps.getD 67 undef = .bool false := hd ⟨2, .guard⟩ (by simp) rfl
      have hgv : gpVal _ a 2 = .bool false := hd ⟨2, .guard⟩ (by simp) rfl
      rw [if_pos (by rw [gp_some rfl hgv]; decide)]
      clear hgv
      intro K hK
      go_simp
      exact hK _ _ (Below.refl _ _) hI rfl
    · simp only [List.getElem?_toArray, List.getElem?_cons_zero, List.getElem?_cons_succ, Option.some.injEq] at ho
      subst ho
      have h75 : a.tmps.getD 75 undef = .bool false := hd ⟨10, .data⟩ (by simp) rfl
      have h67 : a.tmps.getD 67 undef = .bool false := hd ⟨2, .guard⟩ (by simp) rfl
      have hgv : gpVal _ a 2 = .bool false := hd ⟨2, .guard⟩ (by simp) rfl
      rw [if_pos (by rw [gp_some rfl hgv]; decide)]
      clear hgv
      intro K hK
      go_simp
      exact hK _ _ (Below.refl _ _) hI rfl
    · simp only [List.getElem?_toArray, List.getElem?_cons_zero, List.getElem?_cons_succ, Option.some.injEq] at ho
      subst ho
      have h76 : a.tmps.getD 76 undef = .bool false := hd ⟨11, .guard⟩ (by simp) rfl
      have hgv : gpVal _ a 11 = .bool false := hd ⟨11, .guard⟩ (by simp) rfl
      rw [if_neg (by rw [gp_some rfl hgv]; decide)]
      clear hgv
      exact ⟨rfl, Below.refl _ _⟩
    · simp only [List.getElem?_toArray, List.getElem?_cons_zero, List.getElem?_cons_succ, Option.some.injEq] at ho
      subst ho
      have h76 : a.tmps.getD 76 undef = .bool false := hd ⟨11, .guard⟩ (by simp) rfl
      have hgv : gpVal _ a 11 = .bool false := hd ⟨11, .guard⟩ (by simp) rfl
      rw [if_neg (by rw [gp_some rfl hgv]; decide)]
      clear hgv
      exact ⟨rfl, Below.refl _ _⟩
    · simp only [List.getElem?_toArray, List.getElem?_cons_zero, List.getElem?_cons_succ, Option.some.injEq] at ho
      subst ho
      have h77 : a.tmps.getD 77 undef = undef := hd ⟨12, .data⟩ (by simp) rfl
      have h78 : a.tmps.getD 78 undef = undef := hd ⟨13, .data⟩ (by simp) rfl
      have h76 : a.tmps.getD 76 undef = .bool false := hd ⟨11, .guard⟩ (by simp) rfl
      have hgv : gpVal _ a 11 = .bool false := hd ⟨11, .guard⟩ (by simp) rfl
      rw [if_neg (by rw [gp_some rfl hgv]; decide)]
      clear hgv
      exact ⟨rfl, Below.refl _ _⟩
    · simp only [List.getElem?_toArray, List.getElem?_cons_zero, List.getElem?_cons_succ, Option.some.injEq] at ho
      subst ho
      have h79 : a.tmps.getD 79 undef = undef := hd ⟨14, .data⟩ (by simp) rfl
      have h76 : a.tmps.getD 76 undef = .bool false := hd ⟨11, .guard⟩ (by simp) rfl
      have hgv : gpVal _ a 11 = .bool false := hd ⟨11, .guard⟩ (by simp) rfl
      rw [if_neg (by rw [gp_some rfl hgv]; decide)]
      clear hgv
      exact ⟨rfl, Below.refl _ _⟩
    · simp only [List.getElem?_toArray, List.getElem?_cons_zero, List.getElem?_cons_succ, Option.some.injEq] at ho
      subst ho
      have h76 : a.tmps.getD 76 undef = .bool false := hd ⟨11, .data⟩ (by simp) rfl
      have h80 : a.tmps.getD 80 undef = undef := hd ⟨15, .data⟩ (by simp) rfl
      have h67 : a.tmps.getD 67 undef = .bool false := hd ⟨2, .guard⟩ (by simp) rfl
      have hgv : gpVal _ a 2 = .bool false := hd ⟨2, .guard⟩ (by simp) rfl
      rw [if_pos (by rw [gp_some rfl hgv]; decide)]
      clear hgv
      intro K hK
      go_simp
      exact hK _ _ (Below.refl _ _) hI rfl
    · simp only [List.getElem?_toArray, List.getElem?_cons_zero, List.getElem?_cons_succ, Option.some.injEq] at ho
      subst ho
      have h67 : a.tmps.getD 67 undef = .bool false := hd ⟨2, .data⟩ (by simp) rfl
      have h81 : a.tmps.getD 81 undef = .bool false := hd ⟨16, .data⟩ (by simp) rfl
      rw [if_pos (gp_none rfl)]
      intro K hK
      go_simp
      exact hK _ _ (Below.refl _ _) hI rfl
    · simp only [List.getElem?_toArray, List.getElem?_cons_zero, List.getElem?_cons_succ, Option.some.injEq] at ho
      subst ho
      have h82 : a.tmps.getD 82 undef = .bool false := hd ⟨17, .data⟩ (by simp) rfl
      rw [if_pos (gp_none rfl)]
      intro K hK
      go_simp
      exact hK _ _ (Below.refl _ _) hI rfl
    · simp only [List.getElem?_toArray, List.getElem?_cons_zero, List.getElem?_cons_succ, Option.some.injEq] at ho
      subst ho
      have h83 : a.tmps.getD 83 undef = .bool false := hd ⟨18, .guard⟩ (by simp) rfl
      have hgv : gpVal _ a 18 = .bool false := hd ⟨18, .guard⟩ (by simp) rfl
      rw [if_pos (by rw [gp_some rfl hgv]; decide)]
      clear hgv
      intro K hK
      go_simp
      exact hK _ _ (Below.refl _ _) hI rfl
    · simp only [List.getElem?_toArray, List.getElem?_cons_zero, List.getElem?_cons_succ, Option.some.injEq] at ho
      subst ho
      have h83 : a.tmps.getD 83 undef = .bool false := hd ⟨18, .guard⟩ (by simp) rfl
      have hgv : gpVal _ a 18 = .bool false := hd ⟨18, .guard⟩ (by simp) rfl
      rw [if_pos (by rw [gp_some rfl hgv]; decide)]
      clear hgv
      intro K hK
      go_simp
      exact hK _ _ (Below.refl _ _) hI rfl
    · simp only [List.getElem?_toArray, List.getElem?_cons_zero, List.getElem?_cons_succ, Option.some.injEq] at ho
      subst ho
      have h84 : a.tmps.getD 84 undef = .agg #[.int .i64 (ai : Nat), .string (ba' an), .int .i64 (ao : Nat)] := hd ⟨19, .data⟩ (by simp) rfl
      have h85 : a.tmps.getD 85 undef = .agg #[.int .i64 (ai : Nat), .string (ba' an), .int .i64 (ao : Nat)] := hd ⟨20, .data⟩ (by simp) rfl
      have h83 : a.tmps.getD 83 undef = .bool false := hd ⟨18, .guard⟩ (by simp) rfl
      have hgv : gpVal _ a 18 = .bool false := hd ⟨18, .guard⟩ (by simp) rfl
      rw [if_pos (by rw [gp_some rfl hgv]; decide)]
      clear hgv
      intro K hK
      go_simp
      go_at_call 22
      refine (S4.out _ hI.1).mono ?_
      rintro e w' ⟨rfl, hb⟩
      exact hK _ _ hb ⟨bt hI.1 hb, bt hI.2 hb⟩ rfl
    · simp only [List.getElem?_toArray, List.getElem?_cons_zero, List.getElem?_cons_succ, Option.some.injEq] at ho
      subst ho
      have h86 : a.tmps.getD 86 undef = .bool true := hd ⟨21, .data⟩ (by simp) rfl
      have h83 : a.tmps.getD 83 undef = .bool false := hd ⟨18, .guard⟩ (by simp) rfl
      have hgv : gpVal _ a 18 = .bool false := hd ⟨18, .guard⟩ (by simp) rfl
      rw [if_pos (by rw [gp_some rfl hgv]; decide)]
      clear hgv
      intro K hK
      go_simp
      exact hK _ _ (Below.refl _ _) hI rfl
    · simp only [List.getElem?_toArray, List.getElem?_cons_zero, List.getElem?_cons_succ, Option.some.injEq] at ho
      subst ho
      have h83 : a.tmps.getD 83 undef = .bool false := hd ⟨18, .data⟩ (by simp) rfl
      have h87 : a.tmps.getD 87 undef = .bool false := hd ⟨22, .data⟩ (by simp) rfl
      rw [if_pos (gp_none rfl)]
      intro K hK
      go_simp
      exact hK _ _ (Below.refl _ _) hI rfl
    · simp only [List.getElem?_toArray, List.getElem?_cons_zero, List.getElem?_cons_succ, Option.some.injEq] at ho
      subst ho
      have h88 : a.tmps.getD 88 undef = .bool false := hd ⟨23, .data⟩ (by simp) rfl
      rw [if_pos (gp_none rfl)]
      intro K hK
      go_simp
      exact hK _ _ (Below.refl _ _) hI rfl
    · simp only [List.getElem?_toArray, List.getElem?_cons_zero, List.getElem?_cons_succ, Option.some.injEq] at ho
      subst ho
      have h89 : a.tmps.getD 89 undef = .bool false := hd ⟨24, .guard⟩ (by simp) rfl
      have hgv : gpVal _ a 24 = .bool false := hd ⟨24, .guard⟩ (by simp) rfl
      rw [if_pos (by rw [gp_some rfl hgv]; decide)]
      clear hgv
      intro K hK
      go_simp
      exact hK _ _ (Below.refl _ _) hI rfl
    · simp only [List.getElem?_toArray, List.getElem?_cons_zero, List.getElem?_cons_succ, Option.some.injEq] at ho
      subst ho
      have h89 : a.tmps.getD 89 undef = .bool false := hd ⟨24, .guard⟩ (by simp) rfl
      have hgv : gpVal _ a 24 = .bool false := hd ⟨24, .guard⟩ (by simp) rfl
      rw [if_pos (by rw [gp_some rfl hgv]; decide)]
      clear hgv
      intro K hK
      go_simp
      exact hK _ _ (Below.refl _ _) hI rfl
    · simp only [List.getElem?_toArray, List.getElem?_cons_zero, List.getElem?_cons_succ, Option.some.injEq] at ho
      subst ho
      have h89 : a.tmps.getD 89 undef = .bool false := hd ⟨24, .guard⟩ (by simp) rfl
      have hgv : gpVal _ a 24 = .bool false := hd ⟨24, .guard⟩ (by simp) rfl
      rw [if_pos (by rw [gp_some rfl hgv]; decide)]
      clear hgv
      intro K hK
      go_simp
      exact hK _ _ (Below.refl _ _) hI rfl
    · simp only [List.getElem?_toArray, List.getElem?_cons_zero, List.getElem?_cons_succ, Option.some.injEq] at ho
      subst ho
      have h91 : a.tmps.getD 91 undef = .agg #[.int .i64 (ai : Nat), .string (ba' an), .int .i64 (ao : Nat)] := hd ⟨26, .data⟩ (by simp) rfl
      have k91 := tmp' h91
      have h92 : a.tmps.getD 92 undef = .agg #[.int .i64 (bi : Nat), .string (ba' bn), .int .i64 (bo : Nat)] := hd ⟨27, .data⟩ (by simp) rfl
      have k92 := tmp' h92
      have h89 : a.tmps.getD 89 undef = .bool false := hd ⟨24, .guard⟩ (by simp) rfl
      have k89 := tmp' h89
      have hgv : gpVal _ a 24 = .bool false := hd ⟨24, .guard⟩ (by simp) rfl
      rw [if_pos (by rw [gp_some rfl hgv]; decide)]
      clear hgv
      intro K hK
      go_simp
      exact hK _ _ (ba (Below.refl _ _)) ⟨ba hI.1, ba hI.2⟩ ⟨_, rfl, by simp, row2_new _ _ _⟩
    · simp only [List.getElem?_toArray, List.getElem?_cons_zero, List.getElem?_cons_succ, Option.some.injEq] at ho
      subst ho
      obtain ⟨sg, hsq, hsg, hrow⟩ : SL w [⟨⟨ai, an⟩, ao⟩, ⟨⟨bi, bn⟩, bo⟩] 2 (a.tmps.getD 93 undef) := hd ⟨28, .data⟩ (by simp) rfl
      have h89 : a.tmps.getD 89 undef = .bool false := hd ⟨24, .guard⟩ (by simp) rfl
      have hgv : gpVal _ a 24 = .bool false := hd ⟨24, .guard⟩ (by simp) rfl
      rw [if_pos (by rw [gp_some rfl hgv]; decide)]
      clear hgv
      intro K hK
      go_simp
      go_at_call 19
      refine (E1.out _ _ hI.1 hsg hrow).mono ?_
      rintro e w' ⟨rfl, hb⟩
      exact hK _ _ hb ⟨bt hI.1 hb, bt hI.2 hb⟩ rfl
    · simp only [List.getElem?_toArray, List.getElem?_cons_zero, List.getElem?_cons_succ, Option.some.injEq] at ho
      subst ho
      have h90 : a.tmps.getD 90 undef = .agg #[.int .i64 (ai : Nat), .string (ba' an), .int .i64 (ao : Nat)] := hd ⟨25, .data⟩ (by simp) rfl
      have h94 : a.tmps.getD 94 undef = .agg #[.int .i64 (pi : Nat), .string (ba' pn), .int .i64 (po : Nat)] := hd ⟨29, .data⟩ (by simp) rfl
      have h89 : a.tmps.getD 89 undef = .bool false := hd ⟨24, .guard⟩ (by simp) rfl
      have hgv : gpVal _ a 24 = .bool false := hd ⟨24, .guard⟩ (by simp) rfl
      rw [if_pos (by rw [gp_some rfl hgv]; decide)]
      clear hgv
      intro K hK
      go_simp
      go_at_call 22
      refine (S5.out _ hI.1).mono ?_
      rintro e w' ⟨rfl, hb⟩
      exact hK _ _ hb ⟨bt hI.1 hb, bt hI.2 hb⟩ rfl
    · simp only [List.getElem?_toArray, List.getElem?_cons_zero, List.getElem?_cons_succ, Option.some.injEq] at ho
      subst ho
      have h95 : a.tmps.getD 95 undef = .bool true := hd ⟨30, .data⟩ (by simp) rfl
      have h89 : a.tmps.getD 89 undef = .bool false := hd ⟨24, .guard⟩ (by simp) rfl
      have hgv : gpVal _ a 24 = .bool false := hd ⟨24, .guard⟩ (by simp) rfl
      rw [if_pos (by rw [gp_some rfl hgv]; decide)]
      clear hgv
      intro K hK
      go_simp
      exact hK _ _ (Below.refl _ _) hI rfl
    · simp only [List.getElem?_toArray, List.getElem?_cons_zero, List.getElem?_cons_succ, Option.some.injEq] at ho
      subst ho
      have h89 : a.tmps.getD 89 undef = .bool false := hd ⟨24, .data⟩ (by simp) rfl
      have h96 : a.tmps.getD 96 undef = .bool false := hd ⟨31, .data⟩ (by simp) rfl
      rw [if_pos (gp_none rfl)]
      intro K hK
      go_simp
      exact hK _ _ (Below.refl _ _) hI rfl
    · simp only [List.getElem?_toArray, List.getElem?_cons_zero, List.getElem?_cons_succ, Option.some.injEq] at ho
      subst ho
      have h97 : a.tmps.getD 97 undef = .bool false := hd ⟨32, .data⟩ (by simp) rfl
      rw [if_pos (gp_none rfl)]
      intro K hK
      go_simp
      exact hK _ _ (Below.refl _ _) hI rfl
    · simp only [List.getElem?_toArray, List.getElem?_cons_zero, List.getElem?_cons_succ, Option.some.injEq] at ho
      subst ho
      have h98 : a.tmps.getD 98 undef = .bool false := hd ⟨33, .guard⟩ (by simp) rfl
      have hgv : gpVal _ a 33 = .bool false := hd ⟨33, .guard⟩ (by simp) rfl
      rw [if_pos (by rw [gp_some rfl hgv]; decide)]
      clear hgv
      intro K hK
      go_simp
      exact hK _ _ (Below.refl _ _) hI rfl
    · simp only [List.getElem?_toArray, List.getElem?_cons_zero, List.getElem?_cons_succ, Option.some.injEq] at ho
      subst ho
      have h98 : a.tmps.getD 98 undef = .bool false := hd ⟨33, .guard⟩ (by simp) rfl
      have hgv : gpVal _ a 33 = .bool false := hd ⟨33, .guard⟩ (by simp) rfl
      rw [if_pos (by rw [gp_some rfl hgv]; decide)]
      clear hgv
      intro K hK
      go_simp
      exact hK _ _ (Below.refl _ _) hI rfl
    · simp only [List.getElem?_toArray, List.getElem?_cons_zero, List.getElem?_cons_succ, Option.some.injEq] at ho
      subst ho
      have h98 : a.tmps.getD 98 undef = .bool false := hd ⟨33, .guard⟩ (by simp) rfl
      have hgv : gpVal _ a 33 = .bool false := hd ⟨33, .guard⟩ (by simp) rfl
      rw [if_pos (by rw [gp_some rfl hgv]; decide)]
      clear hgv
      intro K hK
      go_simp
      exact hK _ _ (Below.refl _ _) hI rfl
    · simp only [List.getElem?_toArray, List.getElem?_cons_zero, List.getElem?_cons_succ, Option.some.injEq] at ho
      subst ho
      have h100 : a.tmps.getD 100 undef = .agg #[.int .i64 (ai : Nat), .string (ba' an), .int .i64 (ao : Nat)] := hd ⟨35, .data⟩ (by simp) rfl
      have k100 := tmp' h100
      have h101 : a.tmps.getD 101 undef = .agg #[.int .i64 (bi : Nat), .string (ba' bn), .int .i64 (bo : Nat)] := hd ⟨36, .data⟩ (by simp) rfl
      have k101 := tmp' h101
      have h98 : a.tmps.getD 98 undef = .bool false := hd ⟨33, .guard⟩ (by simp) rfl
      have k98 := tmp' h98
      have hgv : gpVal _ a 33 = .bool false := hd ⟨33, .guard⟩ (by simp) rfl
      rw [if_pos (by rw [gp_some rfl hgv]; decide)]
      clear hgv
      intro K hK
      go_simp
      exact hK _ _ (ba (Below.refl _ _)) ⟨ba hI.1, ba hI.2⟩ ⟨_, rfl, by simp, row2_new _ _ _⟩
    · simp only [List.getElem?_toArray, List.getElem?_cons_zero, List.getElem?_cons_succ, Option.some.injEq] at ho
      subst ho
      obtain ⟨sg, hsq, hsg, hrow⟩ : SL w [⟨⟨ai, an⟩, ao⟩, ⟨⟨bi, bn⟩, bo⟩] 2 (a.tmps.getD 102 undef) := hd ⟨37, .data⟩ (by simp) rfl
      have h98 : a.tmps.getD 98 undef = .bool false := hd ⟨33, .guard⟩ (by simp) rfl
      have hgv : gpVal _ a 33 = .bool false := hd ⟨33, .guard⟩ (by simp) rfl
      rw [if_pos (by rw [gp_some rfl hgv]; decide)]
      clear hgv
      intro K hK
      go_simp
      go_at_call 19
      refine (E1.out _ _ hI.1 hsg hrow).mono ?_
      rintro e w' ⟨rfl, hb⟩
      exact hK _ _ hb ⟨bt hI.1 hb, bt hI.2 hb⟩ rfl
    · simp only [List.getElem?_toArray, List.getElem?_cons_zero, List.getElem?_cons_succ, Option.some.injEq] at ho
      subst ho
      have h99 : a.tmps.getD 99 undef = .agg #[.int .i64 (bi : Nat), .string (ba' bn), .int .i64 (bo : Nat)] := hd ⟨34, .data⟩ (by simp) rfl
      have h103 : a.tmps.getD 103 undef = .agg #[.int .i64 (pi : Nat), .string (ba' pn), .int .i64 (po : Nat)] := hd ⟨38, .data⟩ (by simp) rfl
      have h98 : a.tmps.getD 98 undef = .bool false := hd ⟨33, .guard⟩ (by simp) rfl
      have hgv : gpVal _ a 33 = .bool false := hd ⟨33, .guard⟩ (by simp) rfl
      rw [if_pos (by rw [gp_some rfl hgv]; decide)]
      clear hgv
      intro K hK
      go_simp
      go_at_call 22
      refine (S6.out _ hI.1).mono ?_
      rintro e w' ⟨rfl, hb⟩
      exact hK _ _ hb ⟨bt hI.1 hb, bt hI.2 hb⟩ rfl
    · simp only [List.getElem?_toArray, List.getElem?_cons_zero, List.getElem?_cons_succ, Option.some.injEq] at ho
      subst ho
      have h104 : a.tmps.getD 104 undef = .bool true := hd ⟨39, .data⟩ (by simp) rfl
      have h98 : a.tmps.getD 98 undef = .bool false := hd ⟨33, .guard⟩ (by simp) rfl
      have hgv : gpVal _ a 33 = .bool false := hd ⟨33, .guard⟩ (by simp) rfl
      rw [if_pos (by rw [gp_some rfl hgv]; decide)]
      clear hgv
      intro K hK
      go_simp
      exact hK _ _ (Below.refl _ _) hI rfl
    · simp only [List.getElem?_toArray, List.getElem?_cons_zero, List.getElem?_cons_succ, Option.some.injEq] at ho
      subst ho
      have h98 : a.tmps.getD 98 undef = .bool false := hd ⟨33, .data⟩ (by simp) rfl
      have h105 : a.tmps.getD 105 undef = .bool false := hd ⟨40, .data⟩ (by simp) rfl
      rw [if_pos (gp_none rfl)]
      intro K hK
      go_simp
      exact hK _ _ (Below.refl _ _) hI rfl
  · intro a w hI hk hs
    exact hQ a w hk.1 (hk.2.1.trans hsz) (hs 41 (of_decide_eq_true (by kernel_rfl))) ((hk.2.2 2 (gpFree_ne (by kernel_rfl))).trans f2) ((hk.2.2 7 (gpFree_ne (by kernel_rfl))).trans f7) ((hk.2.2 8 (gpFree_ne (by kernel_rfl))).trans f8) ((hk.2.2 9 (gpFree_ne (by kernel_rfl))).trans f9) ((hk.2.2 10 (gpFree_ne (by kernel_rfl))).trans f10) ((hk.2.2 11 (gpFree_ne (by kernel_rfl))).trans f11) hI.1
def HoTSp (_ga _gb _gc sb : Nat) (ai ao : Nat) (an : List UInt8) (bi bo : Nat) (bn : List UInt8) (ci co : Nat) (cn : List UInt8) (pi po : Nat) (pn : List UInt8) (_Ai _Bi : Option Addr) (_ni _ka _mi _kb : Nat) : List Sp := [.val (.pointer (some ⟨sb, 0, none⟩)), .val (.bool false), .val (.bool false), .val (.agg #[.int .i64 (ai : Nat), .string (ba' an), .int .i64 (ao : Nat)]), .val (.agg #[.int .i64 (bi : Nat), .string (ba' bn), .int .i64 (bo : Nat)]), .val (.bool true), .val (.bool true), .val (.agg #[.int .i64 (bi : Nat), .string (ba' bn), .int .i64 (bo : Nat)]), .val (.agg #[.int .i64 (ci : Nat), .string (ba' cn), .int .i64 (co : Nat)]), .val (.bool false), .val (.bool false), .val (.bool false), .val (undef), .val (undef), .val (undef), .val (undef), .val (.bool false), .val (.bool false), .val (.bool false), .val (.agg #[.int .i64 (ai : Nat), .string (ba' an), .int .i64 (ao : Nat)]), .val (.agg #[.int .i64 (ai : Nat), .string (ba' an), .int .i64 (ao : Nat)]), .val (.bool true), .val (.bool false), .val (.bool false), .val (.bool false), .val (.agg #[.int .i64 (ai : Nat), .string (ba' an), .int .i64 (ao : Nat)]), .val (.agg #[.int .i64 (ai : Nat), .string (ba' an), .int .i64 (ao : Nat)]), .val (.agg #[.int .i64 (bi : Nat), .string (ba' bn), .int .i64 (bo : Nat)]), .sl [⟨⟨ai, an⟩, ao⟩, ⟨⟨bi, bn⟩, bo⟩] 2, .val (.agg #[.int .i64 (pi : Nat), .string (ba' pn), .int .i64 (po : Nat)]), .val (.bool true), .val (.bool false), .val (.bool false), .val (.bool false), .val (.agg #[.int .i64 (bi : Nat), .string (ba' bn), .int .i64 (bo : Nat)]), .val (.agg #[.int .i64 (ai : Nat), .string (ba' an), .int .i64 (ao : Nat)]), .val (.agg #[.int .i64 (bi : Nat), .string (ba' bn), .int .i64 (bo : Nat)]), .sl [⟨⟨ai, an⟩, ao⟩, ⟨⟨bi, bn⟩, bo⟩] 2, .val (.agg #[.int .i64 (pi : Nat), .string (ba' pn), .int .i64 (po : Nat)]), .val (.bool true), .val (.bool false), .val (.bool false)]
set_option maxHeartbeats 16000000 in
theorem HoT_region (ga gb gc sb : Nat) (ai ao : Nat) (an : List UInt8) (bi bo : Nat) (bn : List UInt8) (ci co : Nat) (cn : List UInt8) (pi po : Nat) (pn : List UInt8) (Ai Bi : Option Addr) (ni ka mi kb : Nat) (w0 : World) {W : World} {Q : Exit → Act → World → Prop} {a0 : Act} (hsz : a0.tmps.size = 160) (f2 : a0.tmps.getD 2 undef = .slice Ai ni ka) (f7 : a0.tmps.getD 7 undef = .pointer (some ⟨ga, 0, none⟩)) (f8 : a0.tmps.getD 8 undef = .pointer (some ⟨gb, 0, none⟩)) (f9 : a0.tmps.getD 9 undef = .pointer (some ⟨gc, 0, none⟩)) (f10 : a0.tmps.getD 10 undef = .slice Bi mi kb) (f11 : a0.tmps.getD 11 undef = .pointer (some ⟨sb, 0, none⟩)) (hb0 : Below w0.heap.size w0 W) (C0 : W.cell? ⟨ga, 0, none⟩ = some (.int .i64 (ai : Nat))) (C1 : W.cell? ⟨ga, 1, none⟩ = some (.string (ba' an))) (C2 : W.cell? ⟨ga, 2, none⟩ = some (.int .i64 (ao : Nat))) (C3 : W.cell? ⟨gb, 0, none⟩ = some (.int .i64 (bi : Nat))) (C4 : W.cell? ⟨gb, 1, none⟩ = some (.string (ba' bn))) (C5 : W.cell? ⟨gb, 2, none⟩ = some (.int .i64 (bo : Nat))) (C6 : W.cell? ⟨gc, 0, none⟩ = some (.int .i64 (ci : Nat))) (C7 : W.cell? ⟨gc, 1, none⟩ = some (.string (ba' cn))) (C8 : W.cell? ⟨gc, 2, none⟩ = some (.int .i64 (co : Nat))) (S1 : Hid (∀ w1, Below w0.heap.size w0 w1 → Calls Tryd.prog 22 #[.agg #[.int .i64 (ai : Nat), .string (ba' an), .int .i64 (ao : Nat)], .agg #[.int .i64 (bi : Nat), .string (ba' bn), .int .i64 (bo : Nat)]] w1 fun e w' => e = .returned (.bool true) ∧ Below w1.heap.size w1 w')) (S2 : Hid (∀ w1, Below w0.heap.size w0 w1 → Calls Tryd.prog 22 #[.agg #[.int .i64 (bi : Nat), .string (ba' bn), .int .i64 (bo : Nat)], .agg #[.int .i64 (ci : Nat), .string (ba' cn), .int .i64 (co : Nat)]] w1 fun e w' => e = .returned (.bool false) ∧ Below w1.heap.size w1 w')) (S4 : Hid (∀ w1, Below w0.heap.size w0 w1 → Calls Tryd.prog 22 #[.agg #[.int .i64 (ai : Nat), .string (ba' an), .int .i64 (ao : Nat)], .agg #[.int .i64 (ai : Nat), .string (ba' an), .int .i64 (ao : Nat)]] w1 fun e w' => e = .returned (.bool true) ∧ Below w1.heap.size w1 w')) (S5 : Hid (∀ w1, Below w0.heap.size w0 w1 → Calls Tryd.prog 22 #[.agg #[.int .i64 (ai : Nat), .string (ba' an), .int .i64 (ao : Nat)], .agg #[.int .i64 (pi : Nat), .string (ba' pn), .int .i64 (po : Nat)]] w1 fun e w' => e = .returned (.bool true) ∧ Below w1.heap.size w1 w')) (S6 : Hid (∀ w1, Below w0.heap.size w0 w1 → Calls Tryd.prog 22 #[.agg #[.int .i64 (bi : Nat), .string (ba' bn), .int .i64 (bo : Nat)], .agg #[.int .i64 (pi : Nat), .string (ba' pn), .int .i64 (po : Nat)]] w1 fun e w' => e = .returned (.bool true) ∧ Below w1.heap.size w1 w')) (E1 : Hid (∀ w1 g, Below w0.heap.size w0 w1 → g < w1.heap.size → TRow w1 g [⟨⟨ai, an⟩, ao⟩, ⟨⟨bi, bn⟩, bo⟩] → Calls Tryd.prog 19 #[.slice (some ⟨g, 0, none⟩) 2 2] w1 fun e w' => e = .returned (.agg #[.int .i64 (pi : Nat), .string (ba' pn), .int .i64 (po : Nat)]) ∧ Below w1.heap.size w1 w'))
    (hQ : ∀ (A : Act) (w : World), A.defers = a0.defers → A.tmps.size = 160 → A.tmps.getD 106 undef = .bool false → A.tmps.getD 2 undef = .slice Ai ni ka → A.tmps.getD 7 undef = .pointer (some ⟨ga, 0, none⟩) → A.tmps.getD 8 undef = .pointer (some ⟨gb, 0, none⟩) → A.tmps.getD 9 undef = .pointer (some ⟨gc, 0, none⟩) → A.tmps.getD 10 undef = .slice Bi mi kb → A.tmps.getD 11 undef = .pointer (some ⟨sb, 0, none⟩) → Below w0.heap.size w0 w → Q .normal A w) :
    Code.wp Tryd.prog ((Tryd.f5.body.bind (regionOf 7)).getD .skip) Q a0 W := by
  conv => arg 2; whnf
  (try simp only [List.append_eq, List.cons_append, List.nil_append])
  refine wp_region_plan (by kernel_rfl) (by kernel_rfl) (by kernel_rfl) (by rw [hsz]; kernel_rfl) (fun w => Below w0.heap.size w0 w ∧ Below W.heap.size W w) (fun w w' => Below w.heap.size w w') (fun i w v => ((HoTSp ga gb gc sb ai ao an bi bo bn ci co cn pi po pn Ai Bi ni ka mi kb).getD i .any).holds w v) ⟨bdr hb0, bdr (Below.refl _ _)⟩ (fun w w' j v hb h => Sp.mono _ hb h) ?_ ?_ ?_
  · intro i w v hn h
    have hge := gpAll_ge (by kernel_rfl) hn
    have e : (HoTSp ga gb gc sb ai ao an bi bo bn ci co cn pi po pn Ai Bi ni ka mi kb).getD i .any = .any := by rw [List.getD_eq_getElem?_getD, List.getElem?_eq_none (by exact hge)]; rfl
    rw [e]
    trivial
  · intro i o ho a w hI hk hd
    have hi : i < 42 := (Array.getElem?_eq_some_iff.1 ho).1
    have h2 : a.tmps.getD 2 undef = .slice Ai ni ka := (hk.2.2 2 (gpFree_ne (by kernel_rfl))).trans f2
    have h7 : a.tmps.getD 7 undef = .pointer (some ⟨ga, 0, none⟩) := (hk.2.2 7 (gpFree_ne (by kernel_rfl))).trans f7
    have h8 : a.tmps.getD 8 undef = .pointer (some ⟨gb, 0, none⟩) := (hk.2.2 8 (gpFree_ne (by kernel_rfl))).trans f8
    have h9 : a.tmps.getD 9 undef = .pointer (some ⟨gc, 0, none⟩) := (hk.2.2 9 (gpFree_ne (by kernel_rfl))).trans f9
    have h10 : a.tmps.getD 10 undef = .slice Bi mi kb := (hk.2.2 10 (gpFree_ne (by kernel_rfl))).trans f10
    have h11 : a.tmps.getD 11 undef = .pointer (some ⟨sb, 0, none⟩) := (hk.2.2 11 (gpFree_ne (by kernel_rfl))).trans f11
    have c0 : w.cell? ⟨ga, 0, none⟩ = some (.int .i64 (ai : Nat)) := cell_call C0 hI.2
    have c1 : w.cell? ⟨ga, 1, none⟩ = some (.string (ba' an)) := cell_call C1 hI.2
    have c2 : w.cell? ⟨ga, 2, none⟩ = some (.int .i64 (ao : Nat)) := cell_call C2 hI.2
    have c3 : w.cell? ⟨gb, 0, none⟩ = some (.int .i64 (bi : Nat)) := cell_call C3 hI.2
    have c4 : w.cell? ⟨gb, 1, none⟩ = some (.string (ba' bn)) := cell_call C4 hI.2
    have c5 : w.cell? ⟨gb, 2, none⟩ = some (.int .i64 (bo : Nat)) := cell_call C5 hI.2
    have c6 : w.cell? ⟨gc, 0, none⟩ = some (.int .i64 (ci : Nat)) := cell_call C6 hI.2
    have c7 : w.cell? ⟨gc, 1, none⟩ = some (.string (ba' cn)) := cell_call C7 hI.2
    have c8 : w.cell? ⟨gc, 2, none⟩ = some (.int .i64 (co : Nat)) := cell_call C8 hI.2
    rcases (by omega : i = 0 ∨ i = 1 ∨ i = 2 ∨ i = 3 ∨ i = 4 ∨ i = 5 ∨ i = 6 ∨ i = 7 ∨ i = 8 ∨ i = 9 ∨ i = 10 ∨ i = 11 ∨ i = 12 ∨ i = 13 ∨ i = 14 ∨ i = 15 ∨ i = 16 ∨ i = 17 ∨ i = 18 ∨ i = 19 ∨ i = 20 ∨ i = 21 ∨ i = 22 ∨ i = 23 ∨ i = 24 ∨ i = 25 ∨ i = 26 ∨ i = 27 ∨ i = 28 ∨ i = 29 ∨ i = 30 ∨ i = 31 ∨ i = 32 ∨ i = 33 ∨ i = 34 ∨ i = 35 ∨ i = 36 ∨ i = 37 ∨ i = 38 ∨ i = 39 ∨ i = 40 ∨ i = 41) with rfl | rfl | rfl | rfl | rfl | rfl | rfl | rfl | rfl | rfl | rfl | rfl | rfl | rfl | rfl | rfl | rfl | rfl | rfl | rfl | rfl | rfl | rfl | rfl | rfl | rfl | rfl | rfl | rfl | rfl | rfl | rfl | rfl | rfl | rfl | rfl | rfl | rfl | rfl | rfl | rfl | rfl
    · simp only [List.getElem?_toArray, List.getElem?_cons_zero, Option.some.injEq] at ho
      subst ho
      rw [if_pos (gp_none rfl)]
      intro K hK
      go_simp
      exact hK _ _ (Below.refl _ _) hI rfl
    · simp only [List.getElem?_toArray, List.getElem?_cons_zero, List.getElem?_cons_succ, Option.some.injEq] at ho
      subst ho
      have h65 : a.tmps.getD 65 undef = .pointer (some ⟨sb, 0, none⟩) := hd ⟨0, .data⟩ (by simp) rfl
      rw [if_pos (gp_none rfl)]
      intro K hK
      go_simp
      exact hK _ _ (Below.refl _ _) hI rfl
    · simp only [List.getElem?_toArray, List.getElem?_cons_zero, List.getElem?_cons_succ, Option.some.injEq] at ho
      subst ho
      have h66 : a.tmps.getD 66 undef = .bool false := hd ⟨1, .data⟩ (by simp) rfl
      rw [if_pos (gp_none rfl)]
      intro K hK
      go_simp
      exact hK _ _ (Below.refl _ _) hI rfl
    · simp only [List.getElem?_toArray, List.getElem?_cons_zero, List.getElem?_cons_succ, Option.some.injEq] at ho
      subst ho
      have h67 : a.tmps.getD 67 undef = .bool false := hd ⟨2, .guard⟩ (by simp) rfl
      have hgv : gpVal _ a 2 = .bool false := hd ⟨2, .guard⟩ (by simp) rfl
      rw [if_pos (by rw [gp_some rfl hgv]; decide)]
      clear hgv
      intro K hK
      go_simp
      exact hK _ _ (Below.refl _ _) hI rfl
    · simp only [List.getElem?_toArray, List.getElem?_cons_zero, List.getElem?_cons_succ, Option.some.injEq] at ho
      subst ho
      have h67 : a.tmps.getD 67 undef = .bool false := hd ⟨2, .guard⟩ (by simp) rfl
      have hgv : gpVal _ a 2 = .bool false := hd ⟨2, .guard⟩ (by simp) rfl
      rw [if_pos (by rw [gp_some rfl hgv]; decide)]
      clear hgv
      intro K hK
      go_simp
      exact hK _ _ (Below.refl _ _) hI rfl
    · simp only [List.getElem?_toArray, List.getElem?_cons_zero, List.getElem?_cons_succ, Option.some.injEq] at ho
      subst ho
      have h68 : a.tmps.getD 68 undef = .agg #[.int .i64 (ai : Nat), .string (ba' an), .int .i64 (ao : Nat)] := hd ⟨3, .data⟩ (by simp) rfl
      have h69 : a.tmps.getD 69 undef = .agg #[.int .i64 (bi : Nat), .string (ba' bn), .int .i64 (bo : Nat)] := hd ⟨4, .data⟩ (by simp) rfl
      have h67 : a.tmps.getD 67 undef = .bool false := hd ⟨2, .guard⟩ (by simp) rfl
      have hgv : gpVal _ a 2 = .bool false := hd ⟨2, .guard⟩ (by simp) rfl
      rw [if_pos (by rw [gp_some rfl hgv]; decide)]
      clear hgv
      intro K hK
      go_simp
      go_at_call 22
      refine (S1.out _ hI.1).mono ?_
      rintro e w' ⟨rfl, hb⟩
      exact hK _ _ hb ⟨bt hI.1 hb, bt hI.2 hb⟩ rfl
    · simp only [List.getElem?_toArray, List.getElem?_cons_zero, List.getElem?_cons_succ, Option.some.injEq] at ho
      subst ho
      have h70 : a.tmps.getD 70 undef = .bool true := hd ⟨5, .data⟩ (by simp) rfl
      have h67 : a.tmps.getD 67 undef = .bool false := hd ⟨2, .guard⟩ (by simp) rfl
      have hgv : gpVal _ a 2 = .bool false := hd ⟨2, .guard⟩ (by simp) rfl
      rw [if_pos (by rw [gp_some rfl hgv]; decide)]
      clear hgv
      intro K hK
      go_simp
      exact hK _ _ (Below.refl _ _) hI rfl
    · simp only [List.getElem?_toArray, List.getElem?_cons_zero, List.getElem?_cons_succ, Option.some.injEq] at ho
      subst ho
      have h71 : a.tmps.getD 71 undef = .bool true := hd ⟨6, .guard⟩ (by simp) rfl
      have hgv : gpVal _ a 6 = .bool true := hd ⟨6, .guard⟩ (by simp) rfl
      rw [if_pos (by rw [gp_some rfl hgv]; decide)]
      clear hgv
      intro K hK
      go_simp
      exact hK _ _ (Below.refl _ _) hI rfl
    · simp only [List.getElem?_toArray, List.getElem?_cons_zero, List.getElem?_cons_succ, Option.some.injEq] at ho
      subst ho
      have h71 : a.tmps.getD 71 undef = .bool true := hd ⟨6, .guard⟩ (by simp) rfl
      have hgv : gpVal _ a 6 = .bool true := hd ⟨6, .guard⟩ (by simp) rfl
      rw [if_pos (by rw [gp_some rfl hgv]; decide)]
      clear hgv
      intro K hK
      go_simp
      exact hK _ _ (Below.refl _ _) hI rfl
    · simp only [List.getElem?_toArray, List.getElem?_cons_zero, List.getElem?_cons_succ, Option.some.injEq] at ho
      subst ho
      have h72 : a.tmps.getD 72 undef = .agg #[.int .i64 (bi : Nat), .string (ba' bn), .int .i64 (bo : Nat)] := hd ⟨7, .data⟩ (by simp) rfl
      have h73 : a.tmps.getD 73 undef = .agg #[.int .i64 (ci : Nat), .string (ba' cn), .int .i64 (co : Nat)] := hd ⟨8, .data⟩ (by simp) rfl
      have h71 : a.tmps.getD 71 undef = .bool true := hd ⟨6, .guard⟩ (by simp) rfl
      have hgv : gpVal _ a 6 = .bool true := hd ⟨6, .guard⟩ (by simp) rfl
      rw [if_pos (by rw [gp_some rfl hgv]; decide)]
      clear hgv
      intro K hK
      go_simp
      go_at_call 22
      refine (S2.out _ hI.1).mono ?_
      rintro e w' ⟨rfl, hb⟩
      exact hK _ _ hb ⟨bt hI.1 hb, bt hI.2 hb⟩ rfl
    · simp only [List.getElem?_toArray, List.getElem?_cons_zero, List.getElem?_cons_succ, Option.some.injEq] at ho
      subst ho
      have h71 : a.tmps.getD 71 undef = .bool true := hd ⟨6, .data⟩ (by simp) rfl
      have h74 : a.tmps.getD 74 undef = .bool false := hd ⟨9, .data⟩ (by simp) rfl
      have h67 : a.tmps.getD 67 undef = .bool false := hd ⟨2, .guard⟩ (by simp) rfl
      have hgv : gpVal _ a 2 = .bool false := hd ⟨2, .guard⟩ (by simp) rfl
      rw [if_pos (by rw [gp_some rfl hgv]; decide)]
      clear hgv
      intro K hK
      go_simp
      exact hK _ _ (Below.refl _ _) hI rfl
    · simp only [List.getElem?_toArray, List.getElem?_cons_zero, List.getElem?_cons_succ, Option.some.injEq] at ho
      subst ho
      have h75 : a.tmps.getD 75 undef = .bool false := hd ⟨10, .data⟩ (by simp) rfl
      have h67 : a.tmps.getD 67 undef = .bool false := hd ⟨2, .guard⟩ (by simp) rfl
      have hgv : gpVal _ a 2 = .bool false := hd ⟨2, .guard⟩ (by simp) rfl
      rw [if_pos (by rw [gp_some rfl hgv]; decide)]
      clear hgv
      intro K hK
      go_simp
      exact hK _ _ (Below.refl _ _) hI rfl
    · simp only [List.getElem?_toArray, List.getElem?_cons_zero, List.getElem?_cons_succ, Option.some.injEq] at ho
      subst ho
      have h76 : a.tmps.getD 76 undef = .bool false := hd ⟨11, .guard⟩ (by simp) rfl
      have hgv : gpVal _ a 11 = .bool false := hd ⟨11, .guard⟩ (by simp) rfl
      rw [if_neg (by rw [gp_some rfl hgv]; decide)]
      clear hgv
      exact ⟨rfl, Below.refl _ _⟩
    · simp only [List.getElem?_toArray, List.getElem?_cons_zero, List.getElem?_cons_succ, Option.some.injEq] at ho
      subst ho
      have h76 : a.tmps.getD 76 undef = .bool false := hd ⟨11, .guard⟩ (by simp) rfl
      have hgv : gpVal _ a 11 = .bool false := hd ⟨11, .guard⟩ (by simp) rfl
      rw [if_neg (by rw [gp_some rfl hgv]; decide)]
      clear hgv
      exact ⟨rfl, Below.refl _ _⟩
    · simp only [List.getElem?_toArray, List.getElem?_cons_zero, List.getElem?_cons_succ, Option.some.injEq] at ho
      subst ho
      have h77 : a.tmps.getD 77 undef = undef := hd ⟨12, .data⟩ (by simp) rfl
      have h78 : a.tmps.getD 78 undef = undef := hd ⟨13, .data⟩ (by simp) rfl
      have h76 : a.tmps.getD 76 undef = .bool false := hd ⟨11, .guard⟩ (by simp) rfl
      have hgv : gpVal _ a 11 = .bool false := hd ⟨11, .guard⟩ (by simp) rfl
      rw [if_neg (by rw [gp_some rfl hgv]; decide)]
      clear hgv
      exact ⟨rfl, Below.refl _ _⟩
    · simp only [List.getElem?_toArray, List.getElem?_cons_zero, List.getElem?_cons_succ, Option.some.injEq] at ho
      subst ho
      have h79 : a.tmps.getD 79 undef = undef := hd ⟨14, .data⟩ (by simp) rfl
      have h76 : a.tmps.getD 76 undef = .bool false := hd ⟨11, .guard⟩ (by simp) rfl
      have hgv : gpVal _ a 11 = .bool false := hd ⟨11, .guard⟩ (by simp) rfl
      rw [if_neg (by rw [gp_some rfl hgv]; decide)]
      clear hgv
      exact ⟨rfl, Below.refl _ _⟩
    · simp only [List.getElem?_toArray, List.getElem?_cons_zero, List.getElem?_cons_succ, Option.some.injEq] at ho
      subst ho
      have h76 : a.tmps.getD 76 undef = .bool false := hd ⟨11, .data⟩ (by simp) rfl
      have h80 : a.tmps.getD 80 undef = undef := hd ⟨15, .data⟩ (by simp) rfl
      have h67 : a.tmps.getD 67 undef = .bool false := hd ⟨2, .guard⟩ (by simp) rfl
      have hgv : gpVal _ a 2 = .bool false := hd ⟨2, .guard⟩ (by simp) rfl
      rw [if_pos (by rw [gp_some rfl hgv]; decide)]
      clear hgv
      intro K hK
      go_simp
      exact hK _ _ (Below.refl _ _) hI rfl
    · simp only [List.getElem?_toArray, List.getElem?_cons_zero, List.getElem?_cons_succ, Option.some.injEq] at ho
      subst ho
      have h67 : a.tmps.getD 67 undef = .bool false := hd ⟨2, .data⟩ (by simp) rfl
      have h81 : a.tmps.getD 81 undef = .bool false := hd ⟨16, .data⟩ (by simp) rfl
      rw [if_pos (gp_none rfl)]
      intro K hK
      go_simp
      exact hK _ _ (Below.refl _ _) hI rfl
    · simp only [List.getElem?_toArray, List.getElem?_cons_zero, List.getElem?_cons_succ, Option.some.injEq] at ho
      subst ho
      have h82 : a.tmps.getD 82 undef = .bool false := hd ⟨17, .data⟩ (by simp) rfl
      rw [if_pos (gp_none rfl)]
      intro K hK
      go_simp
      exact hK _ _ (Below.refl _ _) hI rfl
    · simp only [List.getElem?_toArray, List.getElem?_cons_zero, List.getElem?_cons_succ, Option.some.injEq] at ho
      subst ho
      have h83 : a.tmps.getD 83 undef = .bool false := hd ⟨18, .guard⟩ (by simp) rfl
      have hgv : gpVal _ a 18 = .bool false := hd ⟨18, .guard⟩ (by simp) rfl
      rw [if_pos (by rw [gp_some rfl hgv]; decide)]
      clear hgv
      intro K hK
      go_simp
      exact hK _ _ (Below.refl _ _) hI rfl
    · simp only [List.getElem?_toArray, List.getElem?_cons_zero, List.getElem?_cons_succ, Option.some.injEq] at ho
      subst ho
      have h83 : a.tmps.getD 83 undef = .bool false := hd ⟨18, .guard⟩ (by simp) rfl
      have hgv : gpVal _ a 18 = .bool false := hd ⟨18, .guard⟩ (by simp) rfl
      rw [if_pos (by rw [gp_some rfl hgv]; decide)]
      clear hgv
      intro K hK
      go_simp
      exact hK _ _ (Below.refl _ _) hI rfl
    · simp only [List.getElem?_toArray, List.getElem?_cons_zero, List.getElem?_cons_succ, Option.some.injEq] at ho
      subst ho
      have h84 : a.tmps.getD 84 undef = .agg #[.int .i64 (ai : Nat), .string (ba' an), .int .i64 (ao : Nat)] := hd ⟨19, .data⟩ (by simp) rfl
      have h85 : a.tmps.getD 85 undef = .agg #[.int .i64 (ai : Nat), .string (ba' an), .int .i64 (ao : Nat)] := hd ⟨20, .data⟩ (by simp) rfl
      have h83 : a.tmps.getD 83 undef = .bool false := hd ⟨18, .guard⟩ (by simp) rfl
      have hgv : gpVal _ a 18 = .bool false := hd ⟨18, .guard⟩ (by simp) rfl
      rw [if_pos (by rw [gp_some rfl hgv]; decide)]
      clear hgv
      intro K hK
      go_simp
      go_at_call 22
      refine (S4.out _ hI.1).mono ?_
      rintro e w' ⟨rfl, hb⟩
      exact hK _ _ hb ⟨bt hI.1 hb, bt hI.2 hb⟩ rfl
    · simp only [List.getElem?_toArray, List.getElem?_cons_zero, List.getElem?_cons_succ, Option.some.injEq] at ho
      subst ho
      have h86 : a.tmps.getD 86 undef = .bool true := hd ⟨21, .data⟩ (by simp) rfl
      have h83 : a.tmps.getD 83 undef = .bool false := hd ⟨18, .guard⟩ (by simp) rfl
      have hgv : gpVal _ a 18 = .bool false := hd ⟨18, .guard⟩ (by simp) rfl
      rw [if_pos (by rw [gp_some rfl hgv]; decide)]
      clear hgv
      intro K hK
      go_simp
      exact hK _ _ (Below.refl _ _) hI rfl
    · simp only [List.getElem?_toArray, List.getElem?_cons_zero, List.getElem?_cons_succ, Option.some.injEq] at ho
      subst ho
      have h83 : a.tmps.getD 83 undef = .bool false := hd ⟨18, .data⟩ (by simp) rfl
      have h87 : a.tmps.getD 87 undef = .bool false := hd ⟨22, .data⟩ (by simp) rfl
      rw [if_pos (gp_none rfl)]
      intro K hK
      go_simp
      exact hK _ _ (Below.refl _ _) hI rfl
    · simp only [List.getElem?_toArray, List.getElem?_cons_zero, List.getElem?_cons_succ, Option.some.injEq] at ho
      subst ho
      have h88 : a.tmps.getD 88 undef = .bool false := hd ⟨23, .data⟩ (by simp) rfl
      rw [if_pos (gp_none rfl)]
      intro K hK
      go_simp
      exact hK _ _ (Below.refl _ _) hI rfl
    · simp only [List.getElem?_toArray, List.getElem?_cons_zero, List.getElem?_cons_succ, Option.some.injEq] at ho
      subst ho
      have h89 : a.tmps.getD 89 undef = .bool false := hd ⟨24, .guard⟩ (by simp) rfl
      have hgv : gpVal _ a 24 = .bool false := hd ⟨24, .guard⟩ (by simp) rfl
      rw [if_pos (by rw [gp_some rfl hgv]; decide)]
      clear hgv
      intro K hK
      go_simp
      exact hK _ _ (Below.refl _ _) hI rfl
    · simp only [List.getElem?_toArray, List.getElem?_cons_zero, List.getElem?_cons_succ, Option.some.injEq] at ho
      subst ho
      have h89 : a.tmps.getD 89 undef = .bool false := hd ⟨24, .guard⟩ (by simp) rfl
      have hgv : gpVal _ a 24 = .bool false := hd ⟨24, .guard⟩ (by simp) rfl
      rw [if_pos (by rw [gp_some rfl hgv]; decide)]
      clear hgv
      intro K hK
      go_simp
      exact hK _ _ (Below.refl _ _) hI rfl
    · simp only [List.getElem?_toArray, List.getElem?_cons_zero, List.getElem?_cons_succ, Option.some.injEq] at ho
      subst ho
      have h89 : a.tmps.getD 89 undef = .bool false := hd ⟨24, .guard⟩ (by simp) rfl
      have hgv : gpVal _ a 24 = .bool false := hd ⟨24, .guard⟩ (by simp) rfl
      rw [if_pos (by rw [gp_some rfl hgv]; decide)]
      clear hgv
      intro K hK
      go_simp
      exact hK _ _ (Below.refl _ _) hI rfl
    · simp only [List.getElem?_toArray, List.getElem?_cons_zero, List.getElem?_cons_succ, Option.some.injEq] at ho
      subst ho
      have h91 : a.tmps.getD 91 undef = .agg #[.int .i64 (ai : Nat), .string (ba' an), .int .i64 (ao : Nat)] := hd ⟨26, .data⟩ (by simp) rfl
      have k91 := tmp' h91
      have h92 : a.tmps.getD 92 undef = .agg #[.int .i64 (bi : Nat), .string (ba' bn), .int .i64 (bo : Nat)] := hd ⟨27, .data⟩ (by simp) rfl
      have k92 := tmp' h92
      have h89 : a.tmps.getD 89 undef = .bool false := hd ⟨24, .guard⟩ (by simp) rfl
      have k89 := tmp' h89
      have hgv : gpVal _ a 24 = .bool false := hd ⟨24, .guard⟩ (by simp) rfl
      rw [if_pos (by rw [gp_some rfl hgv]; decide)]
      clear hgv
      intro K hK
      go_simp
      exact hK _ _ (ba (Below.refl _ _)) ⟨ba hI.1, ba hI.2⟩ ⟨_, rfl, by simp, row2_new _ _ _⟩
    · simp only [List.getElem?_toArray, List.getElem?_cons_zero, List.getElem?_cons_succ, Option.some.injEq] at ho
      subst ho
      obtain ⟨sg, hsq, hsg, hrow⟩ : SL w [⟨⟨ai, an⟩, ao⟩, ⟨⟨bi, bn⟩, bo⟩] 2 (a.tmps.getD 93 undef) := hd ⟨28, .data⟩ (by simp) rfl
      have h89 : a.tmps.getD 89 undef = .bool false := hd ⟨24, .guard⟩ (by simp) rfl
      have hgv : gpVal _ a 24 = .bool false := hd ⟨24, .guard⟩ (by simp) rfl
      rw [if_pos (by rw [gp_some rfl hgv]; decide)]
      clear hgv
      intro K hK
      go_simp
      go_at_call 19
      refine (E1.out _ _ hI.1 hsg hrow).mono ?_
      rintro e w' ⟨rfl, hb⟩
      exact hK _ _ hb ⟨bt hI.1 hb, bt hI.2 hb⟩ rfl
    · simp only [List.getElem?_toArray, List.getElem?_cons_zero, List.getElem?_cons_succ, Option.some.injEq] at ho
      subst ho
      have h90 : a.tmps.getD 90 undef = .agg #[.int .i64 (ai : Nat), .string (ba' an), .int .i64 (ao : Nat)] := hd ⟨25, .data⟩ (by simp) rfl
      have h94 : a.tmps.getD 94 undef = .agg #[.int .i64 (pi : Nat), .string (ba' pn), .int .i64 (po : Nat)] := hd ⟨29, .data⟩ (by simp) rfl
      have h89 : a.tmps.getD 89 undef = .bool false := hd ⟨24, .guard⟩ (by simp) rfl
      have hgv : gpVal _ a 24 = .bool false := hd ⟨24, .guard⟩ (by simp) rfl
      rw [if_pos (by rw [gp_some rfl hgv]; decide)]
      clear hgv
      intro K hK
      go_simp
      go_at_call 22
      refine (S5.out _ hI.1).mono ?_
      rintro e w' ⟨rfl, hb⟩
      exact hK _ _ hb ⟨bt hI.1 hb, bt hI.2 hb⟩ rfl
    · simp only [List.getElem?_toArray, List.getElem?_cons_zero, List.getElem?_cons_succ, Option.some.injEq] at ho
      subst ho
      have h95 : a.tmps.getD 95 undef = .bool true := hd ⟨30, .data⟩ (by simp) rfl
      have h89 : a.tmps.getD 89 undef = .bool false := hd ⟨24, .guard⟩ (by simp) rfl
      have hgv : gpVal _ a 24 = .bool false := hd ⟨24, .guard⟩ (by simp) rfl
      rw [if_pos (by rw [gp_some rfl hgv]; decide)]
      clear hgv
      intro K hK
      go_simp
      exact hK _ _ (Below.refl _ _) hI rfl
    · simp only [List.getElem?_toArray, List.getElem?_cons_zero, List.getElem?_cons_succ, Option.some.injEq] at ho
      subst ho
      have h89 : a.tmps.getD 89 undef = .bool false := hd ⟨24, .data⟩ (by simp) rfl
      have h96 : a.tmps.getD 96 undef = .bool false := hd ⟨31, .data⟩ (by simp) rfl
      rw [if_pos (gp_none rfl)]
      intro K hK
      go_simp
      exact hK _ _ (Below.refl _ _) hI rfl
    · simp only [List.getElem?_toArray, List.getElem?_cons_zero, List.getElem?_cons_succ, Option.some.injEq] at ho
      subst ho
      have h97 : a.tmps.getD 97 undef = .bool false := hd ⟨32, .data⟩ (by simp) rfl
      rw [if_pos (gp_none rfl)]
      intro K hK
      go_simp
      exact hK _ _ (Below.refl _ _) hI rfl
    · simp only [List.getElem?_toArray, List.getElem?_cons_zero, List.getElem?_cons_succ, Option.some.injEq] at ho
      subst ho
      have h98 : a.tmps.getD 98 undef = .bool false := hd ⟨33, .guard⟩ (by simp) rfl
      have hgv : gpVal _ a 33 = .bool false := hd ⟨33, .guard⟩ (by simp) rfl
      rw [if_pos (by rw [gp_some rfl hgv]; decide)]
      clear hgv
      intro K hK
      go_simp
      exact hK _ _ (Below.refl _ _) hI rfl
    · simp only [List.getElem?_toArray, List.getElem?_cons_zero, List.getElem?_cons_succ, Option.some.injEq] at ho
      subst ho
      have h98 : a.tmps.getD 98 undef = .bool false := hd ⟨33, .guard⟩ (by simp) rfl
      have hgv : gpVal _ a 33 = .bool false := hd ⟨33, .guard⟩ (by simp) rfl
      rw [if_pos (by rw [gp_some rfl hgv]; decide)]
      clear hgv
      intro K hK
      go_simp
      exact hK _ _ (Below.refl _ _) hI rfl
    · simp only [List.getElem?_toArray, List.getElem?_cons_zero, List.getElem?_cons_succ, Option.some.injEq] at ho
      subst ho
      have h98 : a.tmps.getD 98 undef = .bool false := hd ⟨33, .guard⟩ (by simp) rfl
      have hgv : gpVal _ a 33 = .bool false := hd ⟨33, .guard⟩ (by simp) rfl
      rw [if_pos (by rw [gp_some rfl hgv]; decide)]
      clear hgv
      intro K hK
      go_simp
      exact hK _ _ (Below.refl _ _) hI rfl
    · simp only [List.getElem?_toArray, List.getElem?_cons_zero, List.getElem?_cons_succ, Option.some.injEq] at ho
      subst ho
      have h100 : a.tmps.getD 100 undef = .agg #[.int .i64 (ai : Nat), .string (ba' an), .int .i64 (ao : Nat)] := hd ⟨35, .data⟩ (by simp) rfl
      have k100 := tmp' h100
      have h101 : a.tmps.getD 101 undef = .agg #[.int .i64 (bi : Nat), .string (ba' bn), .int .i64 (bo : Nat)] := hd ⟨36, .data⟩ (by simp) rfl
      have k101 := tmp' h101
      have h98 : a.tmps.getD 98 undef = .bool false := hd ⟨33, .guard⟩ (by simp) rfl
      have k98 := tmp' h98
      have hgv : gpVal _ a 33 = .bool false := hd ⟨33, .guard⟩ (by simp) rfl
      rw [if_pos (by rw [gp_some rfl hgv]; decide)]
      clear hgv
      intro K hK
      go_simp
      exact hK _ _ (ba (Below.refl _ _)) ⟨ba hI.1, ba hI.2⟩ ⟨_, rfl, by simp, row2_new _ _ _⟩
    · simp only [List.getElem?_toArray, List.getElem?_cons_zero, List.getElem?_cons_succ, Option.some.injEq] at ho
      subst ho
      obtain ⟨sg, hsq, hsg, hrow⟩ : SL w [⟨⟨ai, an⟩, ao⟩, ⟨⟨bi, bn⟩, bo⟩] 2 (a.tmps.getD 102 undef) := hd ⟨37, .data⟩ (by simp) rfl
      have h98 : a.tmps.getD 98 undef = .bool false := hd ⟨33, .guard⟩ (by simp) rfl
      have hgv : gpVal _ a 33 = .bool false := hd ⟨33, .guard⟩ (by simp) rfl
      rw [if_pos (by rw [gp_some rfl hgv]; decide)]
      clear hgv
      intro K hK
      go_simp
      go_at_call 19
      refine (E1.out _ _ hI.1 hsg hrow).mono ?_
      rintro e w' ⟨rfl, hb⟩
      exact hK _ _ hb ⟨bt hI.1 hb, bt hI.2 hb⟩ rfl
    · simp only [List.getElem?_toArray, List.getElem?_cons_zero, List.getElem?_cons_succ, Option.some.injEq] at ho
      subst ho
      have h99 : a.tmps.getD 99 undef = .agg #[.int .i64 (bi : Nat), .string (ba' bn), .int .i64 (bo : Nat)] := hd ⟨34, .data⟩ (by simp) rfl
      have h103 : a.tmps.getD 103 undef = .agg #[.int .i64 (pi : Nat), .string (ba' pn), .int .i64 (po : Nat)] := hd ⟨38, .data⟩ (by simp) rfl
      have h98 : a.tmps.getD 98 undef = .bool false := hd ⟨33, .guard⟩ (by simp) rfl
      have hgv : gpVal _ a 33 = .bool false := hd ⟨33, .guard⟩ (by simp) rfl
      rw [if_pos (by rw [gp_some rfl hgv]; decide)]
      clear hgv
      intro K hK
      go_simp
      go_at_call 22
      refine (S6.out _ hI.1).mono ?_
      rintro e w' ⟨rfl, hb⟩
      exact hK _ _ hb ⟨bt hI.1 hb, bt hI.2 hb⟩ rfl
    · simp only [List.getElem?_toArray, List.getElem?_cons_zero, List.getElem?_cons_succ, Option.some.injEq] at ho
      subst ho
      have h104 : a.tmps.getD 104 undef = .bool true := hd ⟨39, .data⟩ (by simp) rfl
      have h98 : a.tmps.getD 98 undef = .bool false := hd ⟨33, .guard⟩ (by simp) rfl
      have hgv : gpVal _ a 33 = .bool false := hd ⟨33, .guard⟩ (by simp) rfl
      rw [if_pos (by rw [gp_some rfl hgv]; decide)]
      clear hgv
      intro K hK
      go_simp
      exact hK _ _ (Below.refl _ _) hI rfl
    · simp only [List.getElem?_toArray, List.getElem?_cons_zero, List.getElem?_cons_succ, Option.some.injEq] at ho
      subst ho
      have h98 : a.tmps.getD 98 undef = .bool false := hd ⟨33, .data⟩ (by simp) rfl
      have h105 : a.tmps.getD 105 undef = .bool false := hd ⟨40, .data⟩ (by simp) rfl
      rw [if_pos (gp_none rfl)]
      intro K hK
      go_simp
      exact hK _ _ (Below.refl _ _) hI rfl
  · intro a w hI hk hs
    exact hQ a w hk.1 (hk.2.1.trans hsz) (hs 41 (of_decide_eq_true (by kernel_rfl))) ((hk.2.2 2 (gpFree_ne (by kernel_rfl))).trans f2) ((hk.2.2 7 (gpFree_ne (by kernel_rfl))).trans f7) ((hk.2.2 8 (gpFree_ne (by kernel_rfl))).trans f8) ((hk.2.2 9 (gpFree_ne (by kernel_rfl))).trans f9) ((hk.2.2 10 (gpFree_ne (by kernel_rfl))).trans f10) ((hk.2.2 11 (gpFree_ne (by kernel_rfl))).trans f11) hI.1
def HoUSp (_ga _gb _gc sb : Nat) (ai ao : Nat) (an : List UInt8) (bi bo : Nat) (bn : List UInt8) (ci co : Nat) (cn : List UInt8) (pi po : Nat) (pn : List UInt8) (_Ai _Bi : Option Addr) (_ni _ka _mi _kb : Nat) : List Sp := [.val (.pointer (some ⟨sb, 0, none⟩)), .val (.bool false), .val (.bool false), .val (.agg #[.int .i64 (ai : Nat), .string (ba' an), .int .i64 (ao : Nat)]), .val (.agg #[.int .i64 (bi : Nat), .string (ba' bn), .int .i64 (bo : Nat)]), .val (.bool true), .val (.bool true), .val (.agg #[.int .i64 (bi : Nat), .string (ba' bn), .int .i64 (bo : Nat)]), .val (.agg #[.int .i64 (ci : Nat), .string (ba' cn), .int .i64 (co : Nat)]), .val (.bool true), .val (.bool true), .val (.bool true), .val (.agg #[.int .i64 (ai : Nat), .string (ba' an), .int .i64 (ao : Nat)]), .val (.agg #[.int .i64 (ci : Nat), .string (ba' cn), .int .i64 (co : Nat)]), .val (.bool true), .val (.bool false), .val (.bool false), .val (.bool false), .val (.bool false), .val (.agg #[.int .i64 (ai : Nat), .string (ba' an), .int .i64 (ao : Nat)]), .val (.agg #[.int .i64 (ai : Nat), .string (ba' an), .int .i64 (ao : Nat)]), .val (.bool true), .val (.bool false), .val (.bool false), .val (.bool false), .val (.agg #[.int .i64 (ai : Nat), .string (ba' an), .int .i64 (ao : Nat)]), .val (.agg #[.int .i64 (ai : Nat), .string (ba' an), .int .i64 (ao : Nat)]), .val (.agg #[.int .i64 (bi : Nat), .string (ba' bn), .int .i64 (bo : Nat)]), .sl [⟨⟨ai, an⟩, ao⟩, ⟨⟨bi, bn⟩, bo⟩] 2, .val (.agg #[.int .i64 (pi : Nat), .string (ba' pn), .int .i64 (po : Nat)]), .val (.bool true), .val (.bool false), .val (.bool false), .val (.bool false), .val (.agg #[.int .i64 (bi : Nat), .string (ba' bn), .int .i64 (bo : Nat)]), .val (.agg #[.int .i64 (ai : Nat), .string (ba' an), .int .i64 (ao : Nat)]), .val (.agg #[.int .i64 (bi : Nat), .string (ba' bn), .int .i64 (bo : Nat)]), .sl [⟨⟨ai, an⟩, ao⟩, ⟨⟨bi, bn⟩, bo⟩] 2, .val (.agg #[.int .i64 (pi : Nat), .string (ba' pn), .int .i64 (po : Nat)]), .val (.bool true), .val (.bool false), .val (.bool false)]
set_option maxHeartbeats 16000000 in
theorem HoU_region (ga gb gc sb : Nat) (ai ao : Nat) (an : List UInt8) (bi bo : Nat) (bn : List UInt8) (ci co : Nat) (cn : List UInt8) (pi po : Nat) (pn : List UInt8) (Ai Bi : Option Addr) (ni ka mi kb : Nat) (w0 : World) {W : World} {Q : Exit → Act → World → Prop} {a0 : Act} (hsz : a0.tmps.size = 160) (f2 : a0.tmps.getD 2 undef = .slice Ai ni ka) (f7 : a0.tmps.getD 7 undef = .pointer (some ⟨ga, 0, none⟩)) (f8 : a0.tmps.getD 8 undef = .pointer (some ⟨gb, 0, none⟩)) (f9 : a0.tmps.getD 9 undef = .pointer (some ⟨gc, 0, none⟩)) (f10 : a0.tmps.getD 10 undef = .slice Bi mi kb) (f11 : a0.tmps.getD 11 undef = .pointer (some ⟨sb, 0, none⟩)) (hb0 : Below w0.heap.size w0 W) (C0 : W.cell? ⟨ga, 0, none⟩ = some (.int .i64 (ai : Nat))) (C1 : W.cell? ⟨ga, 1, none⟩ = some (.string (ba' an))) (C2 : W.cell? ⟨ga, 2, none⟩ = some (.int .i64 (ao : Nat))) (C3 : W.cell? ⟨gb, 0, none⟩ = some (.int .i64 (bi : Nat))) (C4 : W.cell? ⟨gb, 1, none⟩ = some (.string (ba' bn))) (C5 : W.cell? ⟨gb, 2, none⟩ = some (.int .i64 (bo : Nat))) (C6 : W.cell? ⟨gc, 0, none⟩ = some (.int .i64 (ci : Nat))) (C7 : W.cell? ⟨gc, 1, none⟩ = some (.string (ba' cn))) (C8 : W.cell? ⟨gc, 2, none⟩ = some (.int .i64 (co : Nat))) (S1 : Hid (∀ w1, Below w0.heap.size w0 w1 → Calls Tryd.prog 22 #[.agg #[.int .i64 (ai : Nat), .string (ba' an), .int .i64 (ao : Nat)], .agg #[.int .i64 (bi : Nat), .string (ba' bn), .int .i64 (bo : Nat)]] w1 fun e w' => e = .returned (.bool true) ∧ Below w1.heap.size w1 w')) (S2 : Hid (∀ w1, Below w0.heap.size w0 w1 → Calls Tryd.prog 22 #[.agg #[.int .i64 (bi : Nat), .string (ba' bn), .int .i64 (bo : Nat)], .agg #[.int .i64 (ci : Nat), .string (ba' cn), .int .i64 (co : Nat)]] w1 fun e w' => e = .returned (.bool true) ∧ Below w1.heap.size w1 w')) (S3 : Hid (∀ w1, Below w0.heap.size w0 w1 → Calls Tryd.prog 22 #[.agg #[.int .i64 (ai : Nat), .string (ba' an), .int .i64 (ao : Nat)], .agg #[.int .i64 (ci : Nat), .string (ba' cn), .int .i64 (co : Nat)]] w1 fun e w' => e = .returned (.bool true) ∧ Below w1.heap.size w1 w')) (S4 : Hid (∀ w1, Below w0.heap.size w0 w1 → Calls Tryd.prog 22 #[.agg #[.int .i64 (ai : Nat), .string (ba' an), .int .i64 (ao : Nat)], .agg #[.int .i64 (ai : Nat), .string (ba' an), .int .i64 (ao : Nat)]] w1 fun e w' => e = .returned (.bool true) ∧ Below w1.heap.size w1 w')) (S5 : Hid (∀ w1, Below w0.heap.size w0 w1 → Calls Tryd.prog 22 #[.agg #[.int .i64 (ai : Nat), .string (ba' an), .int .i64 (ao : Nat)], .agg #[.int .i64 (pi : Nat), .string (ba' pn), .int .i64 (po : Nat)]] w1 fun e w' => e = .returned (.bool true) ∧ Below w1.heap.size w1 w')) (S6 : Hid (∀ w1, Below w0.heap.size w0 w1 → Calls Tryd.prog 22 #[.agg #[.int .i64 (bi : Nat), .string (ba' bn), .int .i64 (bo : Nat)], .agg #[.int .i64 (pi : Nat), .string (ba' pn), .int .i64 (po : Nat)]] w1 fun e w' => e = .returned (.bool true) ∧ Below w1.heap.size w1 w')) (E1 : Hid (∀ w1 g, Below w0.heap.size w0 w1 → g < w1.heap.size → TRow w1 g [⟨⟨ai, an⟩, ao⟩, ⟨⟨bi, bn⟩, bo⟩] → Calls Tryd.prog 19 #[.slice (some ⟨g, 0, none⟩) 2 2] w1 fun e w' => e = .returned (.agg #[.int .i64 (pi : Nat), .string (ba' pn), .int .i64 (po : Nat)]) ∧ Below w1.heap.size w1 w'))
    (hQ : ∀ (A : Act) (w : World), A.defers = a0.defers → A.tmps.size = 160 → A.tmps.getD 106 undef = .bool false → A.tmps.getD 2 undef = .slice Ai ni ka → A.tmps.getD 7 undef = .pointer (some ⟨ga, 0, none⟩) → A.tmps.getD 8 undef = .pointer (some ⟨gb, 0, none⟩) → A.tmps.getD 9 undef = .pointer (some ⟨gc, 0, none⟩) → A.tmps.getD 10 undef = .slice Bi mi kb → A.tmps.getD 11 undef = .pointer (some ⟨sb, 0, none⟩) → Below w0.heap.size w0 w → Q .normal A w) :
    Code.wp Tryd.prog ((Tryd.f5.body.bind (regionOf 7)).getD .skip) Q a0 W := by
  conv => arg 2; whnf
  (try simp only [List.append_eq, List.cons_append, List.nil_append])
  refine wp_region_plan (by kernel_rfl) (by kernel_rfl) (by kernel_rfl) (by rw [hsz]; kernel_rfl) (fun w => Below w0.heap.size w0 w ∧ Below W.heap.size W w) (fun w w' => Below w.heap.size w w') (fun i w v => ((HoUSp ga gb gc sb ai ao an bi bo bn ci co cn pi po pn Ai Bi ni ka mi kb).getD i .any).holds w v) ⟨bdr hb0, bdr (Below.refl _ _)⟩ (fun w w' j v hb h => Sp.mono _ hb h) ?_ ?_ ?_
  · intro i w v hn h
    have hge := gpAll_ge (by kernel_rfl) hn
    have e : (HoUSp ga gb gc sb ai ao an bi bo bn ci co cn pi po pn Ai Bi ni ka mi kb).getD i .any = .any := by rw [List.getD_eq_getElem?_getD, List.getElem?_eq_none (by exact hge)]; rfl
    rw [e]
    trivial
  · intro i o ho a w hI hk hd
    have hi : i < 42 := (Array.getElem?_eq_some_iff.1 ho).1
    have h2 : a.tmps.getD 2 undef = .slice Ai ni ka := (hk.2.2 2 (gpFree_ne (by kernel_rfl))).trans f2
    have h7 : a.tmps.getD 7 undef = .pointer (some ⟨ga, 0, none⟩) := (hk.2.2 7 (gpFree_ne (by kernel_rfl))).trans f7
    have h8 : a.tmps.getD 8 undef = .pointer (some ⟨gb, 0, none⟩) := (hk.2.2 8 (gpFree_ne (by kernel_rfl))).trans f8
    have h9 : a.tmps.getD 9 undef = .pointer (some ⟨gc, 0, none⟩) := (hk.2.2 9 (gpFree_ne (by kernel_rfl))).trans f9
    have h10 : a.tmps.getD 10 undef = .slice Bi mi kb := (hk.2.2 10 (gpFree_ne (by kernel_rfl))).trans f10
    have h11 : a.tmps.getD 11 undef = .pointer (some ⟨sb, 0, none⟩) := (hk.2.2 11 (gpFree_ne (by kernel_rfl))).trans f11
    have c0 : w.cell? ⟨ga, 0, none⟩ = some (.int .i64 (ai : Nat)) := cell_call C0 hI.2
    have c1 : w.cell? ⟨ga, 1, none⟩ = some (.string (ba' an)) := cell_call C1 hI.2
    have c2 : w.cell? ⟨ga, 2, none⟩ = some (.int .i64 (ao : Nat)) := cell_call C2 hI.2
    have c3 : w.cell? ⟨gb, 0, none⟩ = some (.int .i64 (bi : Nat)) := cell_call C3 hI.2
    have c4 : w.cell? ⟨gb, 1, none⟩ = some (.string (ba' bn)) := cell_call C4 hI.2
    have c5 : w.cell? ⟨gb, 2, none⟩ = some (.int .i64 (bo : Nat)) := cell_call C5 hI.2
    have c6 : w.cell? ⟨gc, 0, none⟩ = some (.int .i64 (ci : Nat)) := cell_call C6 hI.2
    have c7 : w.cell? ⟨gc, 1, none⟩ = some (.string (ba' cn)) := cell_call C7 hI.2
    have c8 : w.cell? ⟨gc, 2, none⟩ = some (.int .i64 (co : Nat)) := cell_call C8 hI.2
    rcases (by omega : i = 0 ∨ i = 1 ∨ i = 2 ∨ i = 3 ∨ i = 4 ∨ i = 5 ∨ i = 6 ∨ i = 7 ∨ i = 8 ∨ i = 9 ∨ i = 10 ∨ i = 11 ∨ i = 12 ∨ i = 13 ∨ i = 14 ∨ i = 15 ∨ i = 16 ∨ i = 17 ∨ i = 18 ∨ i = 19 ∨ i = 20 ∨ i = 21 ∨ i = 22 ∨ i = 23 ∨ i = 24 ∨ i = 25 ∨ i = 26 ∨ i = 27 ∨ i = 28 ∨ i = 29 ∨ i = 30 ∨ i = 31 ∨ i = 32 ∨ i = 33 ∨ i = 34 ∨ i = 35 ∨ i = 36 ∨ i = 37 ∨ i = 38 ∨ i = 39 ∨ i = 40 ∨ i = 41) with rfl | rfl | rfl | rfl | rfl | rfl | rfl | rfl | rfl | rfl | rfl | rfl | rfl | rfl | rfl | rfl | rfl | rfl | rfl | rfl | rfl | rfl | rfl | rfl | rfl | rfl | rfl | rfl | rfl | rfl | rfl | rfl | rfl | rfl | rfl | rfl | rfl | rfl | rfl | rfl | rfl | rfl
    · simp only [List.getElem?_toArray, List.getElem?_cons_zero, Option.some.injEq] at ho
      subst ho
      rw [if_pos (gp_none rfl)]
      intro K hK
      go_simp
      exact hK _ _ (Below.refl _ _) hI rfl
    · simp only [List.getElem?_toArray, List.getElem?_cons_zero, List.getElem?_cons_succ, Option.some.injEq] at ho
      subst ho
      have h65 : a.tmps.getD 65 undef = .pointer (some ⟨sb, 0, none⟩) := hd ⟨0, .data⟩ (by simp) rfl
      rw [if_pos (gp_none rfl)]
      intro K hK
      go_simp
      exact hK _ _ (Below.refl _ _) hI rfl
    · simp only [List.getElem?_toArray, List.getElem?_cons_zero, List.getElem?_cons_succ, Option.some.injEq] at ho
      subst ho
      have h66 : a.tmps.getD 66 undef = .bool false := hd ⟨1, .data⟩ (by simp) rfl
      rw [if_pos (gp_none rfl)]
      intro K hK
      go_simp
      exact hK _ _ (Below.refl _ _) hI rfl
    · simp only [List.getElem?_toArray, List.getElem?_cons_zero, List.getElem?_cons_succ, Option.some.injEq] at ho
      subst ho
      have h67 : a.tmps.getD 67 undef = .bool false := hd ⟨2, .guard⟩ (by simp) rfl
      have hgv : gpVal _ a 2 = .bool false := hd ⟨2, .guard⟩ (by simp) rfl
      rw [if_pos (by rw [gp_some rfl hgv]; decide)]
      clear hgv
      intro K hK
      go_simp
      exact hK _ _ (Below.refl _ _) hI rfl
    · simp only [List.getElem?_toArray, List.getElem?_cons_zero, List.getElem?_cons_succ, Option.some.injEq] at ho
      subst ho
      have h67 : a.tmps.getD 67 undef = .bool false := hd ⟨2, .guard⟩ (by simp) rfl
      have hgv : gpVal _ a 2 = .bool false := hd ⟨2, .guard⟩ (by simp) rfl
      rw [if_pos (by rw [gp_some rfl hgv]; decide)]
      clear hgv
      intro K hK
      go_simp
      exact hK _ _ (Below.refl _ _) hI rfl
    · simp only [List.getElem?_toArray, List.getElem?_cons_zero, List.getElem?_cons_succ, Option.some.injEq] at ho
      subst ho
      have h68 : a.tmps.getD 68 undef = .agg #[.int .i64 (ai : Nat), .string (ba' an), .int .i64 (ao : Nat)] := hd ⟨3, .data⟩ (by simp) rfl
      have h69 : a.tmps.getD 69 undef = .agg #[.int .i64 (bi : Nat), .string (ba' bn), .int .i64 (bo : Nat)] := hd ⟨4, .data⟩ (by simp) rfl
      have h67 : a.tmps.getD 67 undef = .bool false := hd ⟨2, .guard⟩ (by simp) rfl
      have hgv : gpVal _ a 2 = .bool false := hd ⟨2, .guard⟩ (by simp) rfl
      rw [if_pos (by rw [gp_some rfl hgv]; decide)]
      clear hgv
      intro K hK
      go_simp
      go_at_call 22
      refine (S1.out _ hI.1).mono ?_
      rintro e w' ⟨rfl, hb⟩
      exact hK _ _ hb ⟨bt hI.1 hb, bt hI.2 hb⟩ rfl
    · simp only [List.getElem?_toArray, List.getElem?_cons_zero, List.getElem?_cons_succ, Option.some.injEq] at ho
      subst ho
      have h70 : a.tmps.getD 70 undef = .bool true := hd ⟨5, .data⟩ (by simp) rfl
      have h67 : a.tmps.getD 67 undef = .bool false := hd ⟨2, .guard⟩ (by simp) rfl
      have hgv : gpVal _ a 2 = .bool false := hd ⟨2, .guard⟩ (by simp) rfl
      rw [if_pos (by rw [gp_some rfl hgv]; decide)]
      clear hgv
      intro K hK
      go_simp
      exact hK _ _ (Below.refl _ _) hI rfl
    · simp only [List.getElem?_toArray, List.getElem?_cons_zero, List.getElem?_cons_succ, Option.some.injEq] at ho
      subst ho
      have h71 : a.tmps.getD 71 undef = .bool true := hd ⟨6, .guard⟩ (by simp) rfl
      have hgv : gpVal _ a 6 = .bool true := hd ⟨6, .guard⟩ (by simp) rfl
      rw [if_pos (by rw [gp_some rfl hgv]; decide)]
      clear hgv
      intro K hK
      go_simp
      exact hK _ _ (Below.refl _ _) hI rfl
    · simp only [List.getElem?_toArray, List.getElem?_cons_zero, List.getElem?_cons_succ, Option.some.injEq] at ho
      subst ho
      have h71 : a.tmps.getD 71 undef = .bool true := hd ⟨6, .guard⟩ (by simp) rfl
      have hgv : gpVal _ a 6 = .bool true := hd ⟨6, .guard⟩ (by simp) rfl
      rw [if_pos (by rw [gp_some rfl hgv]; decide)]
      clear hgv
      intro K hK
      go_simp
      exact hK _ _ (Below.refl _ _) hI rfl
    · simp only [List.getElem?_toArray, List.getElem?_cons_zero, List.getElem?_cons_succ, Option.some.injEq] at ho
      subst ho
      have h72 : a.tmps.getD 72 undef = .agg #[.int .i64 (bi : Nat), .string (ba' bn), .int .i64 (bo : Nat)] := hd ⟨7, .data⟩ (by simp) rfl
      have h73 : a.tmps.getD 73 undef = .agg #[.int .i64 (ci : Nat), .string (ba' cn), .int .i64 (co : Nat)] := hd ⟨8, .data⟩ (by simp) rfl
      have h71 : a.tmps.getD 71 undef = .bool true := hd ⟨6, .guard⟩ (by simp) rfl
      have hgv : gpVal _ a 6 = .bool true := hd ⟨6, .guard⟩ (by simp) rfl
      rw [if_pos (by rw [gp_some rfl hgv]; decide)]
      clear hgv
      intro K hK
      go_simp
      go_at_call 22
      refine (S2.out _ hI.1).mono ?_
      rintro e w' ⟨rfl, hb⟩
      exact hK _ _ hb ⟨bt hI.1 hb, bt hI.2 hb⟩ rfl
    · simp only [List.getElem?_toArray, List.getElem?_cons_zero, List.getElem?_cons_succ, Option.some.injEq] at ho
      subst ho
      have h71 : a.tmps.getD 71 undef = .bool true := hd ⟨6, .data⟩ (by simp) rfl
      have h74 : a.tmps.getD 74 undef = .bool true := hd ⟨9, .data⟩ (by simp) rfl
      have h67 : a.tmps.getD 67 undef = .bool false := hd ⟨2, .guard⟩ (by simp) rfl
      have hgv : gpVal _ a 2 = .bool false := hd ⟨2, .guard⟩ (by simp) rfl
      rw [if_pos (by rw [gp_some rfl hgv]; decide)]
      clear hgv
      intro K hK
      go_simp
      exact hK _ _ (Below.refl _ _) hI rfl
    · simp only [List.getElem?_toArray, List.getElem?_cons_zero, List.getElem?_cons_succ, Option.some.injEq] at ho
      subst ho
      have h75 : a.tmps.getD 75 undef = .bool true := hd ⟨10, .data⟩ (by simp) rfl
      have h67 : a.tmps.getD 67 undef = .bool false := hd ⟨2, .guard⟩ (by simp) rfl
      have hgv : gpVal _ a 2 = .bool false := hd ⟨2, .guard⟩ (by simp) rfl
      rw [if_pos (by rw [gp_some rfl hgv]; decide)]
      clear hgv
      intro K hK
      go_simp
      exact hK _ _ (Below.refl _ _) hI rfl
    · simp only [List.getElem?_toArray, List.getElem?_cons_zero, List.getElem?_cons_succ, Option.some.injEq] at ho
      subst ho
      have h76 : a.tmps.getD 76 undef = .bool true := hd ⟨11, .guard⟩ (by simp) rfl
      have hgv : gpVal _ a 11 = .bool true := hd ⟨11, .guard⟩ (by simp) rfl
      rw [if_pos (by rw [gp_some rfl hgv]; decide)]
      clear hgv
      intro K hK
      go_simp
      exact hK _ _ (Below.refl _ _) hI rfl
    · simp only [List.getElem?_toArray, List.getElem?_cons_zero, List.getElem?_cons_succ, Option.some.injEq] at ho
      subst ho
      have h76 : a.tmps.getD 76 undef = .bool true := hd ⟨11, .guard⟩ (by simp) rfl
      have hgv : gpVal _ a 11 = .bool true := hd ⟨11, .guard⟩ (by simp) rfl
      rw [if_pos (by rw [gp_some rfl hgv]; decide)]
      clear hgv
      intro K hK
      go_simp
      exact hK _ _ (Below.refl _ _) hI rfl
    · simp only [List.getElem?_toArray, List.getElem?_cons_zero, List.getElem?_cons_succ, Option.some.injEq] at ho
      subst ho
      have h77 : a.tmps.getD 77 undef = .agg #[.int .i64 (ai : Nat), .string (ba' an), .int .i64 (ao : Nat)] := hd ⟨12, .data⟩ (by simp) rfl
      have h78 : a.tmps.getD 78 undef = .agg #[.int .i64 (ci : Nat), .string (ba' cn), .int .i64 (co : Nat)] := hd ⟨13, .data⟩ (by simp) rfl
      have h76 : a.tmps.getD 76 undef = .bool true := hd ⟨11, .guard⟩ (by simp) rfl
      have hgv : gpVal _ a 11 = .bool true := hd ⟨11, .guard⟩ (by simp) rfl
      rw [if_pos (by rw [gp_some rfl hgv]; decide)]
      clear hgv
      intro K hK
      go_simp
      go_at_call 22
      refine (S3.out _ hI.1).mono ?_
      rintro e w' ⟨rfl, hb⟩
      exact hK _ _ hb ⟨bt hI.1 hb, bt hI.2 hb⟩ rfl
    · simp only [List.getElem?_toArray, List.getElem?_cons_zero, List.getElem?_cons_succ, Option.some.injEq] at ho
      subst ho
      have h79 : a.tmps.getD 79 undef = .bool true := hd ⟨14, .data⟩ (by simp) rfl
      have h76 : a.tmps.getD 76 undef = .bool true := hd ⟨11, .guard⟩ (by simp) rfl
      have hgv : gpVal _ a 11 = .bool true := hd ⟨11, .guard⟩ (by simp) rfl
      rw [if_pos (by rw [gp_some rfl hgv]; decide)]
      clear hgv
      intro K hK
      go_simp
      exact hK _ _ (Below.refl _ _) hI rfl
    · simp only [List.getElem?_toArray, List.getElem?_cons_zero, List.getElem?_cons_succ, Option.some.injEq] at ho
      subst ho
      have h76 : a.tmps.getD 76 undef = .bool true := hd ⟨11, .data⟩ (by simp) rfl
      have h80 : a.tmps.getD 80 undef = .bool false := hd ⟨15, .data⟩ (by simp) rfl
      have h67 : a.tmps.getD 67 undef = .bool false := hd ⟨2, .guard⟩ (by simp) rfl
      have hgv : gpVal _ a 2 = .bool false := hd ⟨2, .guard⟩ (by simp) rfl
      rw [if_pos (by rw [gp_some rfl hgv]; decide)]
      clear hgv
      intro K hK
      go_simp
      exact hK _ _ (Below.refl _ _) hI rfl
    · simp only [List.getElem?_toArray, List.getElem?_cons_zero, List.getElem?_cons_succ, Option.some.injEq] at ho
      subst ho
      have h67 : a.tmps.getD 67 undef = .bool false := hd ⟨2, .data⟩ (by simp) rfl
      have h81 : a.tmps.getD 81 undef = .bool false := hd ⟨16, .data⟩ (by simp) rfl
      rw [if_pos (gp_none rfl)]
      intro K hK
      go_simp
      exact hK _ _ (Below.refl _ _) hI rfl
    · simp only [List.getElem?_toArray, List.getElem?_cons_zero, List.getElem?_cons_succ, Option.some.injEq] at ho
      subst ho
      have h82 : a.tmps.getD 82 undef = .bool false := hd ⟨17, .data⟩ (by simp) rfl
      rw [if_pos (gp_none rfl)]
      intro K hK
      go_simp
      exact hK _ _ (Below.refl _ _) hI rfl
    · simp only [List.getElem?_toArray, List.getElem?_cons_zero, List.getElem?_cons_succ, Option.some.injEq] at ho
      subst ho
      have h83 : a.tmps.getD 83 undef = .bool false := hd ⟨18, .guard⟩ (by simp) rfl
      have hgv : gpVal _ a 18 = .bool false := hd ⟨18, .guard⟩ (by simp) rfl
      rw [if_pos (by rw [gp_some rfl hgv]; decide)]
      clear hgv
      intro K hK
      go_simp
      exact hK _ _ (Below.refl _ _) hI rfl
    · simp only [List.getElem?_toArray, List.getElem?_cons_zero, List.getElem?_cons_succ, Option.some.injEq] at ho
      subst ho
      have h83 : a.tmps.getD 83 undef = .bool false := hd ⟨18, .guard⟩ (by simp) rfl
      have hgv : gpVal _ a 18 = .bool false := hd ⟨18, .guard⟩ (by simp) rfl
      rw [if_pos (by rw [gp_some rfl hgv]; decide)]
      clear hgv
      intro K hK
      go_simp
      exact hK _ _ (Below.refl _ _) hI rfl
    · simp only [List.getElem?_toArray, List.getElem?_cons_zero, List.getElem?_cons_succ, Option.some.injEq] at ho
      subst ho
      have h84 : a.tmps.getD 84 undef = .agg #[.int .i64 (ai : Nat), .string (ba' an), .int .i64 (ao : Nat)] := hd ⟨19, .data⟩ (by simp) rfl
      have h85 : a.tmps.getD 85 undef = .agg #[.int .i64 (ai : Nat), .string (ba' an), .int .i64 (ao : Nat)] := hd ⟨20, .data⟩ (by simp) rfl
      have h83 : a.tmps.getD 83 undef = .bool false := hd ⟨18, .guard⟩ (by simp) rfl
      have hgv : gpVal _ a 18 = .bool false := hd ⟨18, .guard⟩ (by simp) rfl
      rw [if_pos (by rw [gp_some rfl hgv]; decide)]
      clear hgv
      intro K hK
      go_simp
      go_at_call 22
      refine (S4.out _ hI.1).mono ?_
      rintro e w' ⟨rfl, hb⟩
      exact hK _ _ hb ⟨bt hI.1 hb, bt hI.2 hb⟩ rfl
    · simp only [List.getElem?_toArray, List.getElem?_cons_zero, List.getElem?_cons_succ, Option.some.injEq] at ho
      subst ho
      have h86 : a.tmps.getD 86 undef = .bool true := hd ⟨21, .data⟩ (by simp) rfl
      have h83 : a.tmps.getD 83 undef = .bool false := hd ⟨18, .guard⟩ (by simp) rfl
      have hgv : gpVal _ a 18 = .bool false := hd ⟨18, .guard⟩ (by simp) rfl
      rw [if_pos (by rw [gp_some rfl hgv]; decide)]
      clear hgv
      intro K hK
      go_simp
      exact hK _ _ (Below.refl _ _) hI rfl
    · simp only [List.getElem?_toArray, List.getElem?_cons_zero, List.getElem?_cons_succ, Option.some.injEq] at ho
      subst ho
      have h83 : a.tmps.getD 83 undef = .bool false := hd ⟨18, .data⟩ (by simp) rfl
      have h87 : a.tmps.getD 87 undef = .bool false := hd ⟨22, .data⟩ (by simp) rfl
      rw [if_pos (gp_none rfl)]
      intro K hK
      go_simp
      exact hK _ _ (Below.refl _ _) hI rfl
    · simp only [List.getElem?_toArray, List.getElem?_cons_zero, List.getElem?_cons_succ, Option.some.injEq] at ho
      subst ho
      have h88 : a.tmps.getD 88 undef = .bool false := hd ⟨23, .data⟩ (by simp) rfl
      rw [if_pos (gp_none rfl)]
      intro K hK
      go_simp
      exact hK _ _ (Below.refl _ _) hI rfl
    · simp only [List.getElem?_toArray, List.getElem?_cons_zero, List.getElem?_cons_succ, Option.some.injEq] at ho
      subst ho
      have h89 : a.tmps.getD 89 undef = .bool false := hd ⟨24, .guard⟩ (by simp) rfl
      have hgv : gpVal _ a 24 = .bool false := hd ⟨24, .guard⟩ (by simp) rfl
      rw [if_pos (by rw [gp_some rfl hgv]; decide)]
      clear hgv
      intro K hK
      go_simp
      exact hK _ _ (Below.refl _ _) hI rfl
    · simp only [List.getElem?_toArray, List.getElem?_cons_zero, List.getElem?_cons_succ, Option.some.injEq] at ho
      subst ho
      have h89 : a.tmps.getD 89 undef = .bool false := hd ⟨24, .guard⟩ (by simp) rfl
      have hgv : gpVal _ a 24 = .bool false := hd ⟨24, .guard⟩ (by simp) rfl
      rw [if_pos (by rw [gp_some rfl hgv]; decide)]
      clear hgv
      intro K hK
      go_simp
      exact hK _ _ (Below.refl _ _) hI rfl
    · simp only [List.getElem?_toArray, List.getElem?_cons_zero, List.getElem?_cons_succ, Option.some.injEq] at ho
      subst ho
      have h89 : a.tmps.getD 89 undef = .bool false := hd ⟨24, .guard⟩ (by simp) rfl
      have hgv : gpVal _ a 24 = .bool false := hd ⟨24, .guard⟩ (by simp) rfl
      rw [if_pos (by rw [gp_some rfl hgv]; decide)]
      clear hgv
      intro K hK
      go_simp
      exact hK _ _ (Below.refl _ _) hI rfl
    · simp only [List.getElem?_toArray, List.getElem?_cons_zero, List.getElem?_cons_succ, Option.some.injEq] at ho
      subst ho
      have h91 : a.tmps.getD 91 undef = .agg #[.int .i64 (ai : Nat), .string (ba' an), .int .i64 (ao : Nat)] := hd ⟨26, .data⟩ (by simp) rfl
      have k91 := tmp' h91
      have h92 : a.tmps.getD 92 undef = .agg #[.int .i64 (bi : Nat), .string (ba' bn), .int .i64 (bo : Nat)] := hd ⟨27, .data⟩ (by simp) rfl
      have k92 := tmp' h92
      have h89 : a.tmps.getD 89 undef = .bool false := hd ⟨24, .guard⟩ (by simp) rfl
      have k89 := tmp' h89
      have hgv : gpVal _ a 24 = .bool false := hd ⟨24, .guard⟩ (by simp) rfl
      rw [if_pos (by rw [gp_some rfl hgv]; decide)]
      clear hgv
      intro K hK
      go_simp
      exact hK _ _ (ba (Below.refl _ _)) ⟨ba hI.1, ba hI.2⟩ ⟨_, rfl, by simp, row2_new _ _ _⟩
    · simp only [List.getElem?_toArray, List.getElem?_cons_zero, List.getElem?_cons_succ, Option.some.injEq] at ho
      subst ho
      obtain ⟨sg, hsq, hsg, hrow⟩ : SL w [⟨⟨ai, an⟩, ao⟩, ⟨⟨bi, bn⟩, bo⟩] 2 (a.tmps.getD 93 undef) := hd ⟨28, .data⟩ (by simp) rfl
      have h89 : a.tmps.getD 89 undef = .bool false := hd ⟨24, .guard⟩ (by simp) rfl
      have hgv : gpVal _ a 24 = .bool false := hd ⟨24, .guard⟩ (by simp) rfl
      rw [if_pos (by rw [gp_some rfl hgv]; decide)]
      clear hgv
      intro K hK
      go_simp
      go_at_call 19
      refine (E1.out _ _ hI.1 hsg hrow).mono ?_
      rintro e w' ⟨rfl, hb⟩
      exact hK _ _ hb ⟨bt hI.1 hb, bt hI.2 hb⟩ rfl
    · simp only [List.getElem?_toArray, List.getElem?_cons_zero, List.getElem?_cons_succ, Option.some.injEq] at ho
      subst ho
      have h90 : a.tmps.getD 90 undef = .agg #[.int .i64 (ai : Nat), .string (ba' an), .int .i64 (ao : Nat)] := hd ⟨25, .data⟩ (by simp) rfl
      have h94 : a.tmps.getD 94 undef = .agg #[.int .i64 (pi : Nat), .string (ba' pn), .int .i64 (po : Nat)] := hd ⟨29, .data⟩ (by simp) rfl
      have h89 : a.tmps.getD 89 undef = .bool false := hd ⟨24, .guard⟩ (by simp) rfl
      have hgv : gpVal _ a 24 = .bool false := hd ⟨24, .guard⟩ (by simp) rfl
      rw [if_pos (by rw [gp_some rfl hgv]; decide)]
      clear hgv
      intro K hK
      go_simp
      go_at_call 22
      refine (S5.out _ hI.1).mono ?_
      rintro e w' ⟨rfl, hb⟩
      exact hK _ _ hb ⟨bt hI.1 hb, bt hI.2 hb⟩ rfl
    · simp only [List.getElem?_toArray, List.getElem?_cons_zero, List.getElem?_cons_succ, Option.some.injEq] at ho
      subst ho
      have h95 : a.tmps.getD 95 undef = .bool true := hd ⟨30, .data⟩ (by simp) rfl
      have h89 : a.tmps.getD 89 undef = .bool false := hd ⟨24, .guard⟩ (by simp) rfl
      have hgv : gpVal _ a 24 = .bool false := hd ⟨24, .guard⟩ (by simp) rfl
      rw [if_pos (by rw [gp_some rfl hgv]; decide)]
      clear hgv
      intro K hK
      go_simp
      exact hK _ _ (Below.refl _ _) hI rfl
    · simp only [List.getElem?_toArray, List.getElem?_cons_zero, List.getElem?_cons_succ, Option.some.injEq] at ho
      subst ho
      have h89 : a.tmps.getD 89 undef = .bool false := hd ⟨24, .data⟩ (by simp) rfl
      have h96 : a.tmps.getD 96 undef = .bool false := hd ⟨31, .data⟩ (by simp) rfl
      rw [if_pos (gp_none rfl)]
      intro K hK
      go_simp
      exact hK _ _ (Below.refl _ _) hI rfl
    · simp only [List.getElem?_toArray, List.getElem?_cons_zero, List.getElem?_cons_succ, Option.some.injEq] at ho
      subst ho
      have h97 : a.tmps.getD 97 undef = .bool false := hd ⟨32, .data⟩ (by simp) rfl
      rw [if_pos (gp_none rfl)]
      intro K hK
      go_simp
      exact hK _ _ (Below.refl _ _) hI rfl
    · simp only [List.getElem?_toArray, List.getElem?_cons_zero, List.getElem?_cons_succ, Option.some.injEq] at ho
      subst ho
      have h98 : a.tmps.getD 98 undef = .bool false := hd ⟨33, .guard⟩ (by simp) rfl
      have hgv : gpVal _ a 33 = .bool false := hd ⟨33, .guard⟩ (by simp) rfl
      rw [if_pos (by rw [gp_some rfl hgv]; decide)]
      clear hgv
      intro K hK
      go_simp
      exact hK _ _ (Below.refl _ _) hI rfl
    · simp only [List.getElem?_toArray, List.getElem?_cons_zero, List.getElem?_cons_succ, Option.some.injEq] at ho
      subst ho
      have h98 : a.tmps.getD 98 undef = .bool false := hd ⟨33, .guard⟩ (by simp) rfl
      have hgv : gpVal _ a 33 = .bool false := hd ⟨33, .guard⟩ (by simp) rfl
      rw [if_pos (by rw [gp_some rfl hgv]; decide)]
      clear hgv
      intro K hK
      go_simp
      exact hK _ _ (Below.refl _ _) hI rfl
    · simp only [List.getElem?_toArray, List.getElem?_cons_zero, List.getElem?_cons_succ, Option.some.injEq] at ho
      subst ho
      have h98 : a.tmps.getD 98 undef = .bool false := hd ⟨33, .guard⟩ (by simp) rfl
      have hgv : gpVal _ a 33 = .bool false := hd ⟨33, .guard⟩ (by simp) rfl
      rw [if_pos (by rw [gp_some rfl hgv]; decide)]
      clear hgv
      intro K hK
      go_simp
      exact hK _ _ (Below.refl _ _) hI rfl
    · simp only [List.getElem?_toArray, List.getElem?_cons_zero, List.getElem?_cons_succ, Option.some.injEq] at ho
      subst ho
      have h100 : a.tmps.getD 100 undef = .agg #[.int .i64 (ai : Nat), .string (ba' an), .int .i64 (ao : Nat)] := hd ⟨35, .data⟩ (by simp) rfl
      have k100 := tmp' h100
      have h101 : a.tmps.getD 101 undef = .agg #[.int .i64 (bi : Nat), .string (ba' bn), .int .i64 (bo : Nat)] := hd ⟨36, .data⟩ (by simp) rfl
      have k101 := tmp' h101
      have h98 : a.tmps.getD 98 undef = .bool false := hd ⟨33, .guard⟩ (by simp) rfl
      have k98 := tmp' h98
      have hgv : gpVal _ a 33 = .bool false := hd ⟨33, .guard⟩ (by simp) rfl
      rw [if_pos (by rw [gp_some rfl hgv]; decide)]
      clear hgv
      intro K hK
      go_simp
      exact hK _ _ (ba (Below.refl _ _)) ⟨ba hI.1, ba hI.2⟩ ⟨_, rfl, by simp, row2_new _ _ _⟩
    · simp only [List.getElem?_toArray, List.getElem?_cons_zero, List.getElem?_cons_succ, Option.some.injEq] at ho
      subst ho
      obtain ⟨sg, hsq, hsg, hrow⟩ : SL w [⟨⟨ai, an⟩, ao⟩, ⟨⟨bi, bn⟩, bo⟩] 2 (a.tmps.getD 102 undef) := hd ⟨37, .data⟩ (by simp) rfl
      have h98 : a.tmps.getD 98 undef = .bool false := hd ⟨33, .guard⟩ (by simp) rfl
      have hgv : gpVal _ a 33 = .bool false := hd ⟨33, .guard⟩ (by simp) rfl
      rw [if_pos (by rw [gp_some rfl hgv]; decide)]
      clear hgv
      intro K hK
      go_simp
      go_at_call 19
      refine (E1.out _ _ hI.1 hsg hrow).mono ?_
      rintro e w' ⟨rfl, hb⟩
      exact hK _ _ hb ⟨bt hI.1 hb, bt hI.2 hb⟩ rfl
    · simp only [List.getElem?_toArray, List.getElem?_cons_zero, List.getElem?_cons_succ, Option.some.injEq] at ho
      subst ho
      have h99 : a.tmps.getD 99 undef = .agg #[.int .i64 (bi : Nat), .string (ba' bn), .int .i64 (bo : Nat)] := hd ⟨34, .data⟩ (by simp) rfl
      have h103 : a.tmps.getD 103 undef = .agg #[.int .i64 (pi : Nat), .string (ba' pn), .int .i64 (po : Nat)] := hd ⟨38, .data⟩ (by simp) rfl
      have h98 : a.tmps.getD 98 undef = .bool false := hd ⟨33, .guard⟩ (by simp) rfl
      have hgv : gpVal _ a 33 = .bool false := hd ⟨33, .guard⟩ (by simp) rfl
      rw [if_pos (by rw [gp_some rfl hgv]; decide)]
      clear hgv
      intro K hK
      go_simp
      go_at_call 22
      refine (S6.out _ hI.1).mono ?_
      rintro e w' ⟨rfl, hb⟩
      exact hK _ _ hb ⟨bt hI.1 hb, bt hI.2 hb⟩ rfl
    · simp only [List.getElem?_toArray, List.getElem?_cons_zero, List.getElem?_cons_succ, Option.some.injEq] at ho
      subst ho
      have h104 : a.tmps.getD 104 undef = .bool true := hd ⟨39, .data⟩ (by simp) rfl
      have h98 : a.tmps.getD 98 undef = .bool false := hd ⟨33, .guard⟩ (by simp) rfl
      have hgv : gpVal _ a 33 = .bool false := hd ⟨33, .guard⟩ (by simp) rfl
      rw [if_pos (by rw [gp_some rfl hgv]; decide)]
      clear hgv
      intro K hK
      go_simp
      exact hK _ _ (Below.refl _ _) hI rfl
    · simp only [List.getElem?_toArray, List.getElem?_cons_zero, List.getElem?_cons_succ, Option.some.injEq] at ho
      subst ho
      have h98 : a.tmps.getD 98 undef = .bool false := hd ⟨33, .data⟩ (by simp) rfl
      have h105 : a.tmps.getD 105 undef = .bool false := hd ⟨40, .data⟩ (by simp) rfl
      rw [if_pos (gp_none rfl)]
      intro K hK
      go_simp
      exact hK _ _ (Below.refl _ _) hI rfl
  · intro a w hI hk hs
    exact hQ a w hk.1 (hk.2.1.trans hsz) (hs 41 (of_decide_eq_true (by kernel_rfl))) ((hk.2.2 2 (gpFree_ne (by kernel_rfl))).trans f2) ((hk.2.2 7 (gpFree_ne (by kernel_rfl))).trans f7) ((hk.2.2 8 (gpFree_ne (by kernel_rfl))).trans f8) ((hk.2.2 9 (gpFree_ne (by kernel_rfl))).trans f9) ((hk.2.2 10 (gpFree_ne (by kernel_rfl))).trans f10) ((hk.2.2 11 (gpFree_ne (by kernel_rfl))).trans f11) hI.1
def Ho9Sp (_ga _gb _gc sb : Nat) (ai ao : Nat) (an : List UInt8) (bi bo : Nat) (bn : List UInt8) (_ci _co : Nat) (_cn : List UInt8) (Ai Bi : Option Addr) (ni ka mi kb : Nat) (p q : Bool) : List Sp := [.val (.pointer (some ⟨sb, 0, none⟩)), .val (.agg #[.int .i64 (ai : Nat), .string (ba' an), .int .i64 (ao : Nat)]), .val (.slice Ai ni ka), .val (.bool p), .val (.pointer (some ⟨sb, 0, none⟩)), .val (.agg #[.int .i64 (bi : Nat), .string (ba' bn), .int .i64 (bo : Nat)]), .val (.slice Bi mi kb), .val (.bool q), .val (.bool p), .val (.bool q)]
set_option maxHeartbeats 16000000 in
theorem Ho9_region (ga gb gc sb : Nat) (ai ao : Nat) (an : List UInt8) (bi bo : Nat) (bn : List UInt8) (ci co : Nat) (cn : List UInt8) (Ai Bi : Option Addr) (ni ka mi kb : Nat) (p q : Bool) (w0 : World) {W : World} {Q : Exit → Act → World → Prop} {a0 : Act} (hsz : a0.tmps.size = 160) (f2 : a0.tmps.getD 2 undef = .slice Ai ni ka) (f7 : a0.tmps.getD 7 undef = .pointer (some ⟨ga, 0, none⟩)) (f8 : a0.tmps.getD 8 undef = .pointer (some ⟨gb, 0, none⟩)) (f9 : a0.tmps.getD 9 undef = .pointer (some ⟨gc, 0, none⟩)) (f10 : a0.tmps.getD 10 undef = .slice Bi mi kb) (f11 : a0.tmps.getD 11 undef = .pointer (some ⟨sb, 0, none⟩)) (hb0 : Below w0.heap.size w0 W) (C0 : W.cell? ⟨ga, 0, none⟩ = some (.int .i64 (ai : Nat))) (C1 : W.cell? ⟨ga, 1, none⟩ = some (.string (ba' an))) (C2 : W.cell? ⟨ga, 2, none⟩ = some (.int .i64 (ao : Nat))) (C3 : W.cell? ⟨gb, 0, none⟩ = some (.int .i64 (bi : Nat))) (C4 : W.cell? ⟨gb, 1, none⟩ = some (.string (ba' bn))) (C5 : W.cell? ⟨gb, 2, none⟩ = some (.int .i64 (bo : Nat))) (C6 : W.cell? ⟨gc, 0, none⟩ = some (.int .i64 (ci : Nat))) (C7 : W.cell? ⟨gc, 1, none⟩ = some (.string (ba' cn))) (C8 : W.cell? ⟨gc, 2, none⟩ = some (.int .i64 (co : Nat))) (M1 : Hid (∀ w1, Below w0.heap.size w0 w1 → Calls Tryd.prog 13 #[.pointer (some ⟨sb, 0, none⟩), .agg #[.int .i64 (ai : Nat), .string (ba' an), .int .i64 (ao : Nat)], .slice Ai ni ka] w1 fun e w' => e = .returned (.bool p) ∧ Below w1.heap.size w1 w')) (M2 : Hid (∀ w1, Below w0.heap.size w0 w1 → Calls Tryd.prog 13 #[.pointer (some ⟨sb, 0, none⟩), .agg #[.int .i64 (bi : Nat), .string (ba' bn), .int .i64 (bo : Nat)], .slice Bi mi kb] w1 fun e w' => e = .returned (.bool q) ∧ Below w1.heap.size w1 w'))
    (hQ : ∀ (A : Act) (w : World), A.defers = a0.defers → A.tmps.size = 160 → A.tmps.getD 14 undef = .bool p → A.tmps.getD 15 undef = .bool q → A.tmps.getD 2 undef = .slice Ai ni ka → A.tmps.getD 7 undef = .pointer (some ⟨ga, 0, none⟩) → A.tmps.getD 8 undef = .pointer (some ⟨gb, 0, none⟩) → A.tmps.getD 9 undef = .pointer (some ⟨gc, 0, none⟩) → A.tmps.getD 10 undef = .slice Bi mi kb → A.tmps.getD 11 undef = .pointer (some ⟨sb, 0, none⟩) → Below w0.heap.size w0 w → Q .normal A w) :
    Code.wp Tryd.prog ((Tryd.f5.body.bind (regionOf 9)).getD .skip) Q a0 W := by
  conv => arg 2; whnf
  (try simp only [List.append_eq, List.cons_append, List.nil_append])
  refine wp_region_plan (by kernel_rfl) (by kernel_rfl) (by kernel_rfl) (by rw [hsz]; kernel_rfl) (fun w => Below w0.heap.size w0 w ∧ Below W.heap.size W w) (fun w w' => Below w.heap.size w w') (fun i w v => ((Ho9Sp ga gb gc sb ai ao an bi bo bn ci co cn Ai Bi ni ka mi kb p q).getD i .any).holds w v) ⟨bdr hb0, bdr (Below.refl _ _)⟩ (fun w w' j v hb h => Sp.mono _ hb h) ?_ ?_ ?_
  · intro i w v hn h
    have hge := gpAll_ge (by kernel_rfl) hn
    have e : (Ho9Sp ga gb gc sb ai ao an bi bo bn ci co cn Ai Bi ni ka mi kb p q).getD i .any = .any := by rw [List.getD_eq_getElem?_getD, List.getElem?_eq_none (by exact hge)]; rfl
    rw [e]
    trivial
  · intro i o ho a w hI hk hd
    have hi : i < 10 := (Array.getElem?_eq_some_iff.1 ho).1
    have h2 : a.tmps.getD 2 undef = .slice Ai ni ka := (hk.2.2 2 (gpFree_ne (by kernel_rfl))).trans f2
    have h7 : a.tmps.getD 7 undef = .pointer (some ⟨ga, 0, none⟩) := (hk.2.2 7 (gpFree_ne (by kernel_rfl))).trans f7
    have h8 : a.tmps.getD 8 undef = .pointer (some ⟨gb, 0, none⟩) := (hk.2.2 8 (gpFree_ne (by kernel_rfl))).trans f8
    have h9 : a.tmps.getD 9 undef = .pointer (some ⟨gc, 0, none⟩) := (hk.2.2 9 (gpFree_ne (by kernel_rfl))).trans f9
    have h10 : a.tmps.getD 10 undef = .slice Bi mi kb := (hk.2.2 10 (gpFree_ne (by kernel_rfl))).trans f10
    have h11 : a.tmps.getD 11 undef = .pointer (some ⟨sb, 0, none⟩) := (hk.2.2 11 (gpFree_ne (by kernel_rfl))).trans f11
    have c0 : w.cell? ⟨ga, 0, none⟩ = some (.int .i64 (ai : Nat)) := cell_call C0 hI.2
    have c1 : w.cell? ⟨ga, 1, none⟩ = some (.string (ba' an)) := cell_call C1 hI.2
    have c2 : w.cell? ⟨ga, 2, none⟩ = some (.int .i64 (ao : Nat)) := cell_call C2 hI.2
    have c3 : w.cell? ⟨gb, 0, none⟩ = some (.int .i64 (bi : Nat)) := cell_call C3 hI.2
    have c4 : w.cell? ⟨gb, 1, none⟩ = some (.string (ba' bn)) := cell_call C4 hI.2
    have c5 : w.cell? ⟨gb, 2, none⟩ = some (.int .i64 (bo : Nat)) := cell_call C5 hI.2
    have c6 : w.cell? ⟨gc, 0, none⟩ = some (.int .i64 (ci : Nat)) := cell_call C6 hI.2
    have c7 : w.cell? ⟨gc, 1, none⟩ = some (.string (ba' cn)) := cell_call C7 hI.2
    have c8 : w.cell? ⟨gc, 2, none⟩ = some (.int .i64 (co : Nat)) := cell_call C8 hI.2
    rcases (by omega : i = 0 ∨ i = 1 ∨ i = 2 ∨ i = 3 ∨ i = 4 ∨ i = 5 ∨ i = 6 ∨ i = 7 ∨ i = 8 ∨ i = 9) with rfl | rfl | rfl | rfl | rfl | rfl | rfl | rfl | rfl | rfl
    · simp only [List.getElem?_toArray, List.getElem?_cons_zero, Option.some.injEq] at ho
      subst ho
      rw [if_pos (gp_none rfl)]
      intro K hK
      go_simp
      exact hK _ _ (Below.refl _ _) hI rfl
    · simp only [List.getElem?_toArray, List.getElem?_cons_zero, List.getElem?_cons_succ, Option.some.injEq] at ho
      subst ho
      rw [if_pos (gp_none rfl)]
      intro K hK
      go_simp
      exact hK _ _ (Below.refl _ _) hI rfl
    · simp only [List.getElem?_toArray, List.getElem?_cons_zero, List.getElem?_cons_succ, Option.some.injEq] at ho
      subst ho
      rw [if_pos (gp_none rfl)]
      intro K hK
      go_simp
      exact hK _ _ (Below.refl _ _) hI rfl
    · simp only [List.getElem?_toArray, List.getElem?_cons_zero, List.getElem?_cons_succ, Option.some.injEq] at ho
      subst ho
      have h107 : a.tmps.getD 107 undef = .pointer (some ⟨sb, 0, none⟩) := hd ⟨0, .data⟩ (by simp) rfl
      have h108 : a.tmps.getD 108 undef = .agg #[.int .i64 (ai : Nat), .string (ba' an), .int .i64 (ao : Nat)] := hd ⟨1, .data⟩ (by simp) rfl
      have h109 : a.tmps.getD 109 undef = .slice Ai ni ka := hd ⟨2, .data⟩ (by simp) rfl
      rw [if_pos (gp_none rfl)]
      intro K hK
      go_simp
      go_at_call 13
      refine (M1.out _ hI.1).mono ?_
      rintro e w' ⟨rfl, hb⟩
      exact hK _ _ hb ⟨bt hI.1 hb, bt hI.2 hb⟩ rfl
    · simp only [List.getElem?_toArray, List.getElem?_cons_zero, List.getElem?_cons_succ, Option.some.injEq] at ho
      subst ho
      rw [if_pos (gp_none rfl)]
      intro K hK
      go_simp
      exact hK _ _ (Below.refl _ _) hI rfl
    · simp only [List.getElem?_toArray, List.getElem?_cons_zero, List.getElem?_cons_succ, Option.some.injEq] at ho
      subst ho
      rw [if_pos (gp_none rfl)]
      intro K hK
      go_simp
      exact hK _ _ (Below.refl _ _) hI rfl
    · simp only [List.getElem?_toArray, List.getElem?_cons_zero, List.getElem?_cons_succ, Option.some.injEq] at ho
      subst ho
      rw [if_pos (gp_none rfl)]
      intro K hK
      go_simp
      exact hK _ _ (Below.refl _ _) hI rfl
    · simp only [List.getElem?_toArray, List.getElem?_cons_zero, List.getElem?_cons_succ, Option.some.injEq] at ho
      subst ho
      have h111 : a.tmps.getD 111 undef = .pointer (some ⟨sb, 0, none⟩) := hd ⟨4, .data⟩ (by simp) rfl
      have h112 : a.tmps.getD 112 undef = .agg #[.int .i64 (bi : Nat), .string (ba' bn), .int .i64 (bo : Nat)] := hd ⟨5, .data⟩ (by simp) rfl
      have h113 : a.tmps.getD 113 undef = .slice Bi mi kb := hd ⟨6, .data⟩ (by simp) rfl
      rw [if_pos (gp_none rfl)]
      intro K hK
      go_simp
      go_at_call 13
      refine (M2.out _ hI.1).mono ?_
      rintro e w' ⟨rfl, hb⟩
      exact hK _ _ hb ⟨bt hI.1 hb, bt hI.2 hb⟩ rfl
    · simp only [List.getElem?_toArray, List.getElem?_cons_zero, List.getElem?_cons_succ, Option.some.injEq] at ho
      subst ho
      have h110 : a.tmps.getD 110 undef = .bool p := hd ⟨3, .data⟩ (by simp) rfl
      rw [if_pos (gp_none rfl)]
      intro K hK
      go_simp
      exact hK _ _ (Below.refl _ _) hI rfl
    · simp only [List.getElem?_toArray, List.getElem?_cons_zero, List.getElem?_cons_succ, Option.some.injEq] at ho
      subst ho
      have h114 : a.tmps.getD 114 undef = .bool q := hd ⟨7, .data⟩ (by simp) rfl
      rw [if_pos (gp_none rfl)]
      intro K hK
      go_simp
      exact hK _ _ (Below.refl _ _) hI rfl
  · intro a w hI hk hs
    exact hQ a w hk.1 (hk.2.1.trans hsz) (hs 8 (of_decide_eq_true (by kernel_rfl))) (hs 9 (of_decide_eq_true (by kernel_rfl))) ((hk.2.2 2 (gpFree_ne (by kernel_rfl))).trans f2) ((hk.2.2 7 (gpFree_ne (by kernel_rfl))).trans f7) ((hk.2.2 8 (gpFree_ne (by kernel_rfl))).trans f8) ((hk.2.2 9 (gpFree_ne (by kernel_rfl))).trans f9) ((hk.2.2 10 (gpFree_ne (by kernel_rfl))).trans f10) ((hk.2.2 11 (gpFree_ne (by kernel_rfl))).trans f11) hI.1
end Go.Proofs.YtjpopmgnhgancaaDoor
