/- The reference adds whole numbers. No condition beyond what the theorems state. -/
import Derived.Test.YtemgabmafmehnaaGreatDoorDeRefSums
import Derived.Test.YtemgabmafmehnaaGreatDoorDeRefTexts
import Derived.Test.YtemgabmafmehnaaGreatDoorDeMath
namespace Go.Proofs
open Go.Shelf Go.RowKit Go.Proofs.Wide Go.Proofs.Dig
def RdF (l : List Int) (w : World) (s : Value) : Prop := ∃ A c, s = .slice A l.length c ∧ Rd w A l ∧ l.length ≤ c ∧ c ≤ 9223372036854775807
theorem RdF.call {l : List Int} {w w' : World} {s : Value} (h : RdF l w s) (hb : Below w.heap.size w w') : RdF l w' s := by
  obtain ⟨A, c, hs, hr, h1, h2⟩ := h
  exact ⟨A, c, hs, hr.call hb, h1, h2⟩
theorem Rd.set_ne {l : List Int} {w : World} {A : Option Addr} (h : Rd w A l) {p : Addr} {x : Value} (hp : w.cell? p = some x) (hx : ∀ d : Int, x ≠ .int .i64 d) (u : Value) : Rd (w.setCell p u) A l := fun hne => by
  obtain ⟨ad, e, hc⟩ := h hne
  refine ⟨ad, e, fun j d hd => ?_⟩
  have h1 := hc j d hd
  rw [World.cell?_setCell_other _ _ _ _ (fun e => by rw [← e, hp] at h1; injection h1 with h1; exact hx d h1)]
  exact h1
theorem rd_store {l : List Int} {w : World} {A : Option Addr} {g : Nat} {b : Bool} {y0 : Option Addr} {y1 y2 : Nat} (h : Rd w A l) (K : Own w g (.bool b) (.slice y0 y1 y2)) (u v : Value) : Rd ((w.setCell ⟨g, 0, none⟩ u).setCell ⟨g, 1, none⟩ v) A l := by
  refine (h.set_ne K.1 (fun d => by simp) u).set_ne (x := .slice y0 y1 y2) ?_ (fun d => by simp) v
  rw [World.cell?_setCell_other _ _ _ _ (by simp)]
  exact K.2.1
/-- A binary operation of the reference's on digits. -/
def BinG (f : Nat) (a b r : List Int) : Prop := ∀ (w : World) (A B : Option Addr) (c1 c2 : Nat), Rd w A a → Rd w B b → a.length ≤ c1 → b.length ≤ c2 →
  Calls Tryz.prog f #[.slice A a.length c1, .slice B b.length c2] w fun e w' => ∃ v, e = .returned v ∧ RdF r w' v ∧ Below w.heap.size w w'
theorem plus_g (a b : List Int) (ha : Canon a) (hb : Canon b) (ha6 : a.length ≤ 1000000) (hb6 : b.length ≤ 1000000) : BinG 115 a b (digs (val a + val b).toNat) := fun w A B c1 c2 hA hB h1 h2 =>
  (refPlus_any A B a b c1 c2 w ha hb hA hB h1 h2 ha6 hb6).mono fun e w' h => by
    obtain ⟨v, rfl, hown, hb⟩ := h
    obtain ⟨A', c', rfl⟩ := own_slice hown
    obtain ⟨hr, q1, q2⟩ := rd_of_row hown rfl
    exact ⟨_, rfl, ⟨A', c', rfl, hr, q1, q2⟩, hb⟩
theorem minus_g (a b : List Int) (ha : Canon a) (hb : Canon b) (hge : val b ≤ val a) (ha6 : a.length ≤ 1000000) : BinG 117 a b (digs (val a - val b).toNat) := fun w A B c1 c2 hA hB h1 h2 =>
  (refMinus_any A B a b c1 c2 w ha hb hge hA hB h1 h2 ha6).mono fun e w' h => by
    obtain ⟨A', c', rfl, hr, q1, q2, hb⟩ := h
    exact ⟨_, rfl, ⟨A', c', rfl, hr, q1, q2⟩, hb⟩
def AdPI (w0 : World) (na nb : Bool) (Pa Pb : Option Addr) (a b r : List Int) (ca cb : Nat) (c0 c1 c5 c6 c7 c8 c9 c18 c19 c20 c21 c22 c23 c24 c25 c26 c27 c28 c29 c30 c31 c32 c33 c34 c35 c36 c37 c38 c39 : Value) (listed : Array Bool) (A : Act) (w : World) : Prop := ∃ (s10 s11 s12 s13 s14 s15 s16 s17 : Value), A = { tmps := #[c0, c1, .pointer (some ⟨w0.heap.size, 0, none⟩), .pointer (some ⟨w0.heap.size + 1, 0, none⟩), .pointer (some ⟨w0.heap.size + 1 + 1, 0, none⟩), c5, c6, c7, c8, c9, s10, s11, s12, s13, s14, s15, s16, s17, c18, c19, c20, c21, c22, c23, c24, c25, c26, c27, c28, c29, c30, c31, c32, c33, c34, c35, c36, c37, c38, c39], defers := [] } ∧
  (listed.getD 0 false = true → s10 = .pointer (some ⟨w0.heap.size, 0, none⟩)) ∧
  (listed.getD 1 false = true → s11 = .bool na) ∧
  (listed.getD 2 false = true → s12 = .pointer (some ⟨w0.heap.size, 1, none⟩)) ∧
  (listed.getD 3 false = true → s13 = .slice Pa a.length ca) ∧
  (listed.getD 4 false = true → s14 = .pointer (some ⟨w0.heap.size + 1, 1, none⟩)) ∧
  (listed.getD 5 false = true → s15 = .slice Pb b.length cb) ∧
  (listed.getD 8 false = false → listed.getD 6 false = true → RdF r w s16) ∧
  (listed.getD 8 false = false → listed.getD 7 false = true → OfF na r w s17) ∧
  (listed.getD 8 false = true → ∃ A9 c9, Own w (w0.heap.size + 1 + 1) (.bool na) (.slice A9 r.length c9) ∧ Rd w A9 r ∧ r.length ≤ c9 ∧ c9 ≤ 9223372036854775807) ∧
  Below w0.heap.size w0 w ∧
  (listed.getD 8 false = false → Own w (w0.heap.size) (.bool na) (.slice Pa a.length ca)) ∧
  (listed.getD 8 false = false → Own w (w0.heap.size + 1) (.bool nb) (.slice Pb b.length cb)) ∧
  (listed.getD 8 false = false → Own w (w0.heap.size + 1 + 1) (.bool false) (.slice none 0 0)) ∧
  (listed.getD 8 false = true → listed.getD 0 false = true) ∧
  (listed.getD 8 false = true → listed.getD 1 false = true) ∧
  (listed.getD 8 false = true → listed.getD 2 false = true) ∧
  (listed.getD 8 false = true → listed.getD 3 false = true) ∧
  (listed.getD 8 false = true → listed.getD 4 false = true) ∧
  (listed.getD 8 false = true → listed.getD 5 false = true) ∧
  (listed.getD 8 false = true → listed.getD 6 false = true) ∧
  (listed.getD 8 false = true → listed.getD 7 false = true)

set_option maxRecDepth 100000 in
set_option maxHeartbeats 16000000 in
theorem AdP_region (na nb : Bool) (Pa Pb : Option Addr) (a b r : List Int) (ca cb : Nat) (x10 x11 x12 x13 x14 x15 x16 x17 : Value) (c0 c1 c5 c6 c7 c8 c9 c18 c19 c20 c21 c22 c23 c24 c25 c26 c27 c28 c29 c30 c31 c32 c33 c34 c35 c36 c37 c38 c39 : Value) (w0 W : World) (Q : Exit → Act → World → Prop) (hb0 : Below w0.heap.size w0 W) (Aa : Own W w0.heap.size (.bool na) (.slice Pa a.length ca)) (Ab : Own W (w0.heap.size + 1) (.bool nb) (.slice Pb b.length cb)) (Ar : Own W (w0.heap.size + 1 + 1) (.bool false) (.slice none 0 0)) (Ha : Hid (Rd w0 Pa a)) (Hb : Hid (Rd w0 Pb b)) (hla : a.length ≤ ca) (hlb : b.length ≤ cb) (HG : Hid (BinG 115 a b r))
    (hQ : ∀ w y16 y17, (∃ A9 c9, Own w (w0.heap.size + 1 + 1) (.bool na) (.slice A9 r.length c9) ∧ Rd w A9 r ∧ r.length ≤ c9 ∧ c9 ≤ 9223372036854775807) → Below w0.heap.size w0 w → Q .normal { tmps := #[c0, c1, .pointer (some ⟨w0.heap.size, 0, none⟩), .pointer (some ⟨w0.heap.size + 1, 0, none⟩), .pointer (some ⟨w0.heap.size + 1 + 1, 0, none⟩), c5, c6, c7, c8, c9, .pointer (some ⟨w0.heap.size, 0, none⟩), .bool na, .pointer (some ⟨w0.heap.size, 1, none⟩), .slice Pa a.length ca, .pointer (some ⟨w0.heap.size + 1, 1, none⟩), .slice Pb b.length cb, y16, y17, c18, c19, c20, c21, c22, c23, c24, c25, c26, c27, c28, c29, c30, c31, c32, c33, c34, c35, c36, c37, c38, c39], defers := [] } w) :
    Code.wp Tryz.prog ((Tryz.f90.body.bind (regionOf 2)).getD .skip) Q { tmps := #[c0, c1, .pointer (some ⟨w0.heap.size, 0, none⟩), .pointer (some ⟨w0.heap.size + 1, 0, none⟩), .pointer (some ⟨w0.heap.size + 1 + 1, 0, none⟩), c5, c6, c7, c8, c9, x10, x11, x12, x13, x14, x15, x16, x17, c18, c19, c20, c21, c22, c23, c24, c25, c26, c27, c28, c29, c30, c31, c32, c33, c34, c35, c36, c37, c38, c39], defers := [] } W := by
  conv => arg 2; whnf
  refine wp_region_inv (by kernel_rfl) (by kernel_rfl) (AdPI w0 na nb Pa Pb a b r ca cb c0 c1 c5 c6 c7 c8 c9 c18 c19 c20 c21 c22 c23 c24 c25 c26 c27 c28 c29 c30 c31 c32 c33 c34 c35 c36 c37 c38 c39) ?_ ?_ ?_
  · exact ⟨_, _, _, _, _, _, _, _, rfl, fun h => absurd h l0, fun h => absurd h l0, fun h => absurd h l0, fun h => absurd h l0, fun h => absurd h l0, fun h => absurd h l0, fun _ h => absurd h l0, fun _ h => absurd h l0, fun h => absurd h l0, bdr hb0, fun _ => Aa.drew, fun _ => Ab.drew, fun _ => Ar.drew, fun h => absurd h l0, fun h => absurd h l0, fun h => absurd h l0, fun h => absurd h l0, fun h => absurd h l0, fun h => absurd h l0, fun h => absurd h l0, fun h => absurd h l0⟩
  · intro i o listed A w hi ho hd hn hI
    unfold AdPI at hI
    obtain ⟨s10, hI⟩ := hI
    obtain ⟨s11, hI⟩ := hI
    obtain ⟨s12, hI⟩ := hI
    obtain ⟨s13, hI⟩ := hI
    obtain ⟨s14, hI⟩ := hI
    obtain ⟨s15, hI⟩ := hI
    obtain ⟨s16, hI⟩ := hI
    obtain ⟨s17, hI⟩ := hI
    obtain ⟨rfl, hI⟩ := hI
    obtain ⟨F0, hI⟩ := hI
    obtain ⟨F1, hI⟩ := hI
    obtain ⟨F2, hI⟩ := hI
    obtain ⟨F3, hI⟩ := hI
    obtain ⟨F4, hI⟩ := hI
    obtain ⟨F5, hI⟩ := hI
    obtain ⟨F6, hI⟩ := hI
    obtain ⟨F7, hI⟩ := hI
    obtain ⟨F8, hI⟩ := hI
    obtain ⟨F9, hI⟩ := hI
    obtain ⟨F10, hI⟩ := hI
    obtain ⟨F11, hI⟩ := hI
    obtain ⟨F12, hI⟩ := hI
    obtain ⟨F13, hI⟩ := hI
    obtain ⟨F14, hI⟩ := hI
    obtain ⟨F15, hI⟩ := hI
    obtain ⟨F16, hI⟩ := hI
    obtain ⟨F17, hI⟩ := hI
    obtain ⟨F18, hI⟩ := hI
    obtain ⟨F19, hI⟩ := hI
    have F20 := hI; clear hI
    have hi' : i < 9 := hi
    clear hi
    rcases (by omega : i = 0 ∨ i = 1 ∨ i = 2 ∨ i = 3 ∨ i = 4 ∨ i = 5 ∨ i = 6 ∨ i = 7 ∨ i = 8) with rfl | rfl | rfl | rfl | rfl | rfl | rfl | rfl | rfl
    · simp only [List.getElem?_toArray, List.getElem?_cons_zero, Option.some.injEq] at ho
      subst ho
      have hJ := ln hn F13
      refine wpOp_step rfl (fun K hK => ?_)
      go_simp
      refine hK _ _ ?_
      exact ⟨_, _, _, _, _, _, _, _, rfl, fun _ => rfl, fun h => F1 (ls (by decide) h), fun h => F2 (ls (by decide) h), fun h => F3 (ls (by decide) h), fun h => F4 (ls (by decide) h), fun h => F5 (ls (by decide) h), fun h0 h => (F6 (lsf (by decide) h0) (ls (by decide) h)), fun h0 h => (F7 (lsf (by decide) h0) (ls (by decide) h)), fun h => lc hn (F13 (ls (by decide) h)), F9, fun h0 => (F10 (lsf (by decide) h0)), fun h0 => (F11 (lsf (by decide) h0)), fun h0 => (F12 (lsf (by decide) h0)), fun _ => lself hn, fun h => la (F14 (ls (by decide) h)), fun h => la (F15 (ls (by decide) h)), fun h => la (F16 (ls (by decide) h)), fun h => la (F17 (ls (by decide) h)), fun h => la (F18 (ls (by decide) h)), fun h => la (F19 (ls (by decide) h)), fun h => la (F20 (ls (by decide) h))⟩
    · simp only [List.getElem?_toArray, List.getElem?_cons_zero, List.getElem?_cons_succ, Option.some.injEq] at ho
      subst ho
      have hJ := ln hn F14
      obtain rfl := F0 (hd ⟨0, .data⟩ (by simp) rfl)
      have O'0 := F10 hJ; obtain ⟨_, _, _, _⟩ := id O'0
      have O'1 := F11 hJ; obtain ⟨_, _, _, _⟩ := id O'1
      have O'2 := F12 hJ; obtain ⟨_, _, _, _⟩ := id O'2
      refine wpOp_step rfl (fun K hK => ?_)
      go_simp
      refine hK _ _ ?_
      exact ⟨_, _, _, _, _, _, _, _, rfl, fun h => F0 (ls (by decide) h), fun _ => rfl, fun h => F2 (ls (by decide) h), fun h => F3 (ls (by decide) h), fun h => F4 (ls (by decide) h), fun h => F5 (ls (by decide) h), fun h0 h => (F6 (lsf (by decide) h0) (ls (by decide) h)), fun h0 h => (F7 (lsf (by decide) h0) (ls (by decide) h)), fun h => lc hn (F14 (ls (by decide) h)), F9, fun h0 => (F10 (lsf (by decide) h0)), fun h0 => (F11 (lsf (by decide) h0)), fun h0 => (F12 (lsf (by decide) h0)), fun h => la (F13 (ls (by decide) h)), fun _ => lself hn, fun h => la (F15 (ls (by decide) h)), fun h => la (F16 (ls (by decide) h)), fun h => la (F17 (ls (by decide) h)), fun h => la (F18 (ls (by decide) h)), fun h => la (F19 (ls (by decide) h)), fun h => la (F20 (ls (by decide) h))⟩
    · simp only [List.getElem?_toArray, List.getElem?_cons_zero, List.getElem?_cons_succ, Option.some.injEq] at ho
      subst ho
      have hJ := ln hn F15
      refine wpOp_step rfl (fun K hK => ?_)
      go_simp
      refine hK _ _ ?_
      exact ⟨_, _, _, _, _, _, _, _, rfl, fun h => F0 (ls (by decide) h), fun h => F1 (ls (by decide) h), fun _ => rfl, fun h => F3 (ls (by decide) h), fun h => F4 (ls (by decide) h), fun h => F5 (ls (by decide) h), fun h0 h => (F6 (lsf (by decide) h0) (ls (by decide) h)), fun h0 h => (F7 (lsf (by decide) h0) (ls (by decide) h)), fun h => lc hn (F15 (ls (by decide) h)), F9, fun h0 => (F10 (lsf (by decide) h0)), fun h0 => (F11 (lsf (by decide) h0)), fun h0 => (F12 (lsf (by decide) h0)), fun h => la (F13 (ls (by decide) h)), fun h => la (F14 (ls (by decide) h)), fun _ => lself hn, fun h => la (F16 (ls (by decide) h)), fun h => la (F17 (ls (by decide) h)), fun h => la (F18 (ls (by decide) h)), fun h => la (F19 (ls (by decide) h)), fun h => la (F20 (ls (by decide) h))⟩
    · simp only [List.getElem?_toArray, List.getElem?_cons_zero, List.getElem?_cons_succ, Option.some.injEq] at ho
      subst ho
      have hJ := ln hn F16
      obtain rfl := F2 (hd ⟨2, .data⟩ (by simp) rfl)
      have O'0 := F10 hJ; obtain ⟨_, _, _, _⟩ := id O'0
      have O'1 := F11 hJ; obtain ⟨_, _, _, _⟩ := id O'1
      have O'2 := F12 hJ; obtain ⟨_, _, _, _⟩ := id O'2
      refine wpOp_step rfl (fun K hK => ?_)
      go_simp
      refine hK _ _ ?_
      exact ⟨_, _, _, _, _, _, _, _, rfl, fun h => F0 (ls (by decide) h), fun h => F1 (ls (by decide) h), fun h => F2 (ls (by decide) h), fun _ => rfl, fun h => F4 (ls (by decide) h), fun h => F5 (ls (by decide) h), fun h0 h => (F6 (lsf (by decide) h0) (ls (by decide) h)), fun h0 h => (F7 (lsf (by decide) h0) (ls (by decide) h)), fun h => lc hn (F16 (ls (by decide) h)), F9, fun h0 => (F10 (lsf (by decide) h0)), fun h0 => (F11 (lsf (by decide) h0)), fun h0 => (F12 (lsf (by decide) h0)), fun h => la (F13 (ls (by decide) h)), fun h => la (F14 (ls (by decide) h)), fun h => la (F15 (ls (by decide) h)), fun _ => lself hn, fun h => la (F17 (ls (by decide) h)), fun h => la (F18 (ls (by decide) h)), fun h => la (F19 (ls (by decide) h)), fun h => la (F20 (ls (by decide) h))⟩
    · simp only [List.getElem?_toArray, List.getElem?_cons_zero, List.getElem?_cons_succ, Option.some.injEq] at ho
      subst ho
      have hJ := ln hn F17
      refine wpOp_step rfl (fun K hK => ?_)
      go_simp
      refine hK _ _ ?_
      exact ⟨_, _, _, _, _, _, _, _, rfl, fun h => F0 (ls (by decide) h), fun h => F1 (ls (by decide) h), fun h => F2 (ls (by decide) h), fun h => F3 (ls (by decide) h), fun _ => rfl, fun h => F5 (ls (by decide) h), fun h0 h => (F6 (lsf (by decide) h0) (ls (by decide) h)), fun h0 h => (F7 (lsf (by decide) h0) (ls (by decide) h)), fun h => lc hn (F17 (ls (by decide) h)), F9, fun h0 => (F10 (lsf (by decide) h0)), fun h0 => (F11 (lsf (by decide) h0)), fun h0 => (F12 (lsf (by decide) h0)), fun h => la (F13 (ls (by decide) h)), fun h => la (F14 (ls (by decide) h)), fun h => la (F15 (ls (by decide) h)), fun h => la (F16 (ls (by decide) h)), fun _ => lself hn, fun h => la (F18 (ls (by decide) h)), fun h => la (F19 (ls (by decide) h)), fun h => la (F20 (ls (by decide) h))⟩
    · simp only [List.getElem?_toArray, List.getElem?_cons_zero, List.getElem?_cons_succ, Option.some.injEq] at ho
      subst ho
      have hJ := ln hn F18
      obtain rfl := F4 (hd ⟨4, .data⟩ (by simp) rfl)
      have O'0 := F10 hJ; obtain ⟨_, _, _, _⟩ := id O'0
      have O'1 := F11 hJ; obtain ⟨_, _, _, _⟩ := id O'1
      have O'2 := F12 hJ; obtain ⟨_, _, _, _⟩ := id O'2
      refine wpOp_step rfl (fun K hK => ?_)
      go_simp
      refine hK _ _ ?_
      exact ⟨_, _, _, _, _, _, _, _, rfl, fun h => F0 (ls (by decide) h), fun h => F1 (ls (by decide) h), fun h => F2 (ls (by decide) h), fun h => F3 (ls (by decide) h), fun h => F4 (ls (by decide) h), fun _ => rfl, fun h0 h => (F6 (lsf (by decide) h0) (ls (by decide) h)), fun h0 h => (F7 (lsf (by decide) h0) (ls (by decide) h)), fun h => lc hn (F18 (ls (by decide) h)), F9, fun h0 => (F10 (lsf (by decide) h0)), fun h0 => (F11 (lsf (by decide) h0)), fun h0 => (F12 (lsf (by decide) h0)), fun h => la (F13 (ls (by decide) h)), fun h => la (F14 (ls (by decide) h)), fun h => la (F15 (ls (by decide) h)), fun h => la (F16 (ls (by decide) h)), fun h => la (F17 (ls (by decide) h)), fun _ => lself hn, fun h => la (F19 (ls (by decide) h)), fun h => la (F20 (ls (by decide) h))⟩
    · simp only [List.getElem?_toArray, List.getElem?_cons_zero, List.getElem?_cons_succ, Option.some.injEq] at ho
      subst ho
      have hJ := ln hn F19
      obtain rfl := F3 (hd ⟨3, .data⟩ (by simp) rfl)
      obtain rfl := F5 (hd ⟨5, .data⟩ (by simp) rfl)
      refine wpOp_step rfl (fun K hK => ?_)
      go_simp
      go_at_call 115; refine (HG.out w Pa Pb ca cb (Ha.out.call F9) (Hb.out.call F9) hla hlb).mono ?_; rintro e w' ⟨v, rfl, hof, hb⟩
      refine hK _ _ ?_
      exact ⟨_, _, _, _, _, _, _, _, rfl, fun h => F0 (ls (by decide) h), fun h => F1 (ls (by decide) h), fun h => F2 (ls (by decide) h), fun h => F3 (ls (by decide) h), fun h => F4 (ls (by decide) h), fun h => F5 (ls (by decide) h), fun _ _ => hof, fun h0 h => (F7 (lsf (by decide) h0) (ls (by decide) h)).call hb, fun h => lc hn (F19 (ls (by decide) h)), bt F9 hb, fun h0 => (F10 (lsf (by decide) h0)).call hb, fun h0 => (F11 (lsf (by decide) h0)).call hb, fun h0 => (F12 (lsf (by decide) h0)).call hb, fun h => la (F13 (ls (by decide) h)), fun h => la (F14 (ls (by decide) h)), fun h => la (F15 (ls (by decide) h)), fun h => la (F16 (ls (by decide) h)), fun h => la (F17 (ls (by decide) h)), fun h => la (F18 (ls (by decide) h)), fun _ => lself hn, fun h => la (F20 (ls (by decide) h))⟩
    · simp only [List.getElem?_toArray, List.getElem?_cons_zero, List.getElem?_cons_succ, Option.some.injEq] at ho
      subst ho
      have hJ := ln hn F20
      obtain rfl := F1 (hd ⟨1, .data⟩ (by simp) rfl)
      obtain ⟨A9, c9, rfl, hrd, hl9, hc9⟩ := F6 hJ (hd ⟨6, .data⟩ (by simp) rfl)
      refine wpOp_step rfl (fun K hK => ?_)
      go_simp
      refine hK _ _ ?_
      exact ⟨_, _, _, _, _, _, _, _, rfl, fun h => F0 (ls (by decide) h), fun h => F1 (ls (by decide) h), fun h => F2 (ls (by decide) h), fun h => F3 (ls (by decide) h), fun h => F4 (ls (by decide) h), fun h => F5 (ls (by decide) h), fun h0 h => (F6 (lsf (by decide) h0) (ls (by decide) h)), fun _ _ => ⟨A9, c9, rfl, hrd, hl9, hc9⟩, fun h => lc hn (F20 (ls (by decide) h)), F9, fun h0 => (F10 (lsf (by decide) h0)), fun h0 => (F11 (lsf (by decide) h0)), fun h0 => (F12 (lsf (by decide) h0)), fun h => la (F13 (ls (by decide) h)), fun h => la (F14 (ls (by decide) h)), fun h => la (F15 (ls (by decide) h)), fun h => la (F16 (ls (by decide) h)), fun h => la (F17 (ls (by decide) h)), fun h => la (F18 (ls (by decide) h)), fun h => la (F19 (ls (by decide) h)), fun _ => lself hn⟩
    · simp only [List.getElem?_toArray, List.getElem?_cons_zero, List.getElem?_cons_succ, Option.some.injEq] at ho
      subst ho
      have hJ := lf hn
      obtain ⟨A9, c9, rfl, hrd, hl9, hc9⟩ := F7 hJ (hd ⟨7, .data⟩ (by simp) rfl)
      have O'0 := F10 hJ; obtain ⟨_, _, _, _⟩ := id O'0
      have O'1 := F11 hJ; obtain ⟨_, _, _, _⟩ := id O'1
      have O'2 := F12 hJ; obtain ⟨_, _, _, _⟩ := id O'2
      have K9 := O'2
      refine wpOp_step rfl (fun K hK => ?_)
      go_simp
      refine hK _ _ ?_
      exact ⟨_, _, _, _, _, _, _, _, rfl, fun h => F0 (ls (by decide) h), fun h => F1 (ls (by decide) h), fun h => F2 (ls (by decide) h), fun h => F3 (ls (by decide) h), fun h => F4 (ls (by decide) h), fun h => F5 (ls (by decide) h), fun h => _root_.Go.lx hn h, fun h => _root_.Go.lx hn h, fun _ => ⟨_, _, K9.store _ _, rd_store hrd K9 _ _, hl9, hc9⟩, (bs (bs F9 (by first | (simp; done) | (simp; omega))) (by first | (simp; done) | (simp; omega))), fun h => _root_.Go.lx hn h, fun h => _root_.Go.lx hn h, fun h => _root_.Go.lx hn h, fun _ => la (hd ⟨0, .phase⟩ (by simp) rfl), fun _ => la (hd ⟨1, .phase⟩ (by simp) rfl), fun _ => la (hd ⟨2, .phase⟩ (by simp) rfl), fun _ => la (hd ⟨3, .phase⟩ (by simp) rfl), fun _ => la (hd ⟨4, .phase⟩ (by simp) rfl), fun _ => la (hd ⟨5, .phase⟩ (by simp) rfl), fun _ => la (hd ⟨6, .phase⟩ (by simp) rfl), fun _ => la (hd ⟨7, .phase⟩ (by simp) rfl)⟩
  · intro listed A w hall hI
    unfold AdPI at hI
    obtain ⟨s10, hI⟩ := hI
    obtain ⟨s11, hI⟩ := hI
    obtain ⟨s12, hI⟩ := hI
    obtain ⟨s13, hI⟩ := hI
    obtain ⟨s14, hI⟩ := hI
    obtain ⟨s15, hI⟩ := hI
    obtain ⟨s16, hI⟩ := hI
    obtain ⟨s17, hI⟩ := hI
    obtain ⟨rfl, hI⟩ := hI
    obtain ⟨F0, hI⟩ := hI
    obtain ⟨F1, hI⟩ := hI
    obtain ⟨F2, hI⟩ := hI
    obtain ⟨F3, hI⟩ := hI
    obtain ⟨F4, hI⟩ := hI
    obtain ⟨F5, hI⟩ := hI
    obtain ⟨F6, hI⟩ := hI
    obtain ⟨F7, hI⟩ := hI
    obtain ⟨F8, hI⟩ := hI
    obtain ⟨F9, hI⟩ := hI
    obtain ⟨F10, hI⟩ := hI
    obtain ⟨F11, hI⟩ := hI
    obtain ⟨F12, hI⟩ := hI
    obtain ⟨F13, hI⟩ := hI
    obtain ⟨F14, hI⟩ := hI
    obtain ⟨F15, hI⟩ := hI
    obtain ⟨F16, hI⟩ := hI
    obtain ⟨F17, hI⟩ := hI
    obtain ⟨F18, hI⟩ := hI
    obtain ⟨F19, hI⟩ := hI
    have F20 := hI; clear hI
    obtain rfl := F0 (hall 0 (by decide))
    obtain rfl := F1 (hall 1 (by decide))
    obtain rfl := F2 (hall 2 (by decide))
    obtain rfl := F3 (hall 3 (by decide))
    obtain rfl := F4 (hall 4 (by decide))
    obtain rfl := F5 (hall 5 (by decide))
    have PJ := F8 (hall 8 (by decide))
    have HB := F9
    clear hall F6 F7 F8 F9 F10 F11 F12 F13 F14 F15 F16 F17 F18 F19 F20
    try dsimp only

    exact hQ _ _ _ PJ HB
def AdMI (w0 : World) (na nb : Bool) (Pa Pb : Option Addr) (a b r : List Int) (ca cb : Nat) (c0 c1 c5 c6 c7 c8 c9 c10 c11 c12 c13 c14 c15 c16 c17 c18 c19 c20 c21 c22 c23 c32 c33 c34 c35 c36 c37 c38 c39 : Value) (listed : Array Bool) (A : Act) (w : World) : Prop := ∃ (s24 s25 s26 s27 s28 s29 s30 s31 : Value), A = { tmps := #[c0, c1, .pointer (some ⟨w0.heap.size, 0, none⟩), .pointer (some ⟨w0.heap.size + 1, 0, none⟩), .pointer (some ⟨w0.heap.size + 1 + 1, 0, none⟩), c5, c6, c7, c8, c9, c10, c11, c12, c13, c14, c15, c16, c17, c18, c19, c20, c21, c22, c23, s24, s25, s26, s27, s28, s29, s30, s31, c32, c33, c34, c35, c36, c37, c38, c39], defers := [] } ∧
  (listed.getD 0 false = true → s24 = .pointer (some ⟨w0.heap.size, 0, none⟩)) ∧
  (listed.getD 1 false = true → s25 = .bool na) ∧
  (listed.getD 2 false = true → s26 = .pointer (some ⟨w0.heap.size, 1, none⟩)) ∧
  (listed.getD 3 false = true → s27 = .slice Pa a.length ca) ∧
  (listed.getD 4 false = true → s28 = .pointer (some ⟨w0.heap.size + 1, 1, none⟩)) ∧
  (listed.getD 5 false = true → s29 = .slice Pb b.length cb) ∧
  (listed.getD 8 false = false → listed.getD 6 false = true → RdF r w s30) ∧
  (listed.getD 8 false = false → listed.getD 7 false = true → OfF na r w s31) ∧
  (listed.getD 8 false = true → ∃ A9 c9, Own w (w0.heap.size + 1 + 1) (.bool na) (.slice A9 r.length c9) ∧ Rd w A9 r ∧ r.length ≤ c9 ∧ c9 ≤ 9223372036854775807) ∧
  Below w0.heap.size w0 w ∧
  (listed.getD 8 false = false → Own w (w0.heap.size) (.bool na) (.slice Pa a.length ca)) ∧
  (listed.getD 8 false = false → Own w (w0.heap.size + 1) (.bool nb) (.slice Pb b.length cb)) ∧
  (listed.getD 8 false = false → Own w (w0.heap.size + 1 + 1) (.bool false) (.slice none 0 0)) ∧
  (listed.getD 8 false = true → listed.getD 0 false = true) ∧
  (listed.getD 8 false = true → listed.getD 1 false = true) ∧
  (listed.getD 8 false = true → listed.getD 2 false = true) ∧
  (listed.getD 8 false = true → listed.getD 3 false = true) ∧
  (listed.getD 8 false = true → listed.getD 4 false = true) ∧
  (listed.getD 8 false = true → listed.getD 5 false = true) ∧
  (listed.getD 8 false = true → listed.getD 6 false = true) ∧
  (listed.getD 8 false = true → listed.getD 7 false = true)

set_option maxRecDepth 100000 in
set_option maxHeartbeats 16000000 in
theorem AdM_region (na nb : Bool) (Pa Pb : Option Addr) (a b r : List Int) (ca cb : Nat) (x24 x25 x26 x27 x28 x29 x30 x31 : Value) (c0 c1 c5 c6 c7 c8 c9 c10 c11 c12 c13 c14 c15 c16 c17 c18 c19 c20 c21 c22 c23 c32 c33 c34 c35 c36 c37 c38 c39 : Value) (w0 W : World) (Q : Exit → Act → World → Prop) (hb0 : Below w0.heap.size w0 W) (Aa : Own W w0.heap.size (.bool na) (.slice Pa a.length ca)) (Ab : Own W (w0.heap.size + 1) (.bool nb) (.slice Pb b.length cb)) (Ar : Own W (w0.heap.size + 1 + 1) (.bool false) (.slice none 0 0)) (Ha : Hid (Rd w0 Pa a)) (Hb : Hid (Rd w0 Pb b)) (hla : a.length ≤ ca) (hlb : b.length ≤ cb) (HG : Hid (BinG 117 a b r))
    (hQ : ∀ w y30 y31, (∃ A9 c9, Own w (w0.heap.size + 1 + 1) (.bool na) (.slice A9 r.length c9) ∧ Rd w A9 r ∧ r.length ≤ c9 ∧ c9 ≤ 9223372036854775807) → Below w0.heap.size w0 w → Q .normal { tmps := #[c0, c1, .pointer (some ⟨w0.heap.size, 0, none⟩), .pointer (some ⟨w0.heap.size + 1, 0, none⟩), .pointer (some ⟨w0.heap.size + 1 + 1, 0, none⟩), c5, c6, c7, c8, c9, c10, c11, c12, c13, c14, c15, c16, c17, c18, c19, c20, c21, c22, c23, .pointer (some ⟨w0.heap.size, 0, none⟩), .bool na, .pointer (some ⟨w0.heap.size, 1, none⟩), .slice Pa a.length ca, .pointer (some ⟨w0.heap.size + 1, 1, none⟩), .slice Pb b.length cb, y30, y31, c32, c33, c34, c35, c36, c37, c38, c39], defers := [] } w) :
    Code.wp Tryz.prog ((Tryz.f90.body.bind (regionOf 4)).getD .skip) Q { tmps := #[c0, c1, .pointer (some ⟨w0.heap.size, 0, none⟩), .pointer (some ⟨w0.heap.size + 1, 0, none⟩), .pointer (some ⟨w0.heap.size + 1 + 1, 0, none⟩), c5, c6, c7, c8, c9, c10, c11, c12, c13, c14, c15, c16, c17, c18, c19, c20, c21, c22, c23, x24, x25, x26, x27, x28, x29, x30, x31, c32, c33, c34, c35, c36, c37, c38, c39], defers := [] } W := by
  conv => arg 2; whnf
  refine wp_region_inv (by kernel_rfl) (by kernel_rfl) (AdMI w0 na nb Pa Pb a b r ca cb c0 c1 c5 c6 c7 c8 c9 c10 c11 c12 c13 c14 c15 c16 c17 c18 c19 c20 c21 c22 c23 c32 c33 c34 c35 c36 c37 c38 c39) ?_ ?_ ?_
  · exact ⟨_, _, _, _, _, _, _, _, rfl, fun h => absurd h l0, fun h => absurd h l0, fun h => absurd h l0, fun h => absurd h l0, fun h => absurd h l0, fun h => absurd h l0, fun _ h => absurd h l0, fun _ h => absurd h l0, fun h => absurd h l0, bdr hb0, fun _ => Aa.drew, fun _ => Ab.drew, fun _ => Ar.drew, fun h => absurd h l0, fun h => absurd h l0, fun h => absurd h l0, fun h => absurd h l0, fun h => absurd h l0, fun h => absurd h l0, fun h => absurd h l0, fun h => absurd h l0⟩
  · intro i o listed A w hi ho hd hn hI
    unfold AdMI at hI
    obtain ⟨s24, hI⟩ := hI
    obtain ⟨s25, hI⟩ := hI
    obtain ⟨s26, hI⟩ := hI
    obtain ⟨s27, hI⟩ := hI
    obtain ⟨s28, hI⟩ := hI
    obtain ⟨s29, hI⟩ := hI
    obtain ⟨s30, hI⟩ := hI
    obtain ⟨s31, hI⟩ := hI
    obtain ⟨rfl, hI⟩ := hI
    obtain ⟨F0, hI⟩ := hI
    obtain ⟨F1, hI⟩ := hI
    obtain ⟨F2, hI⟩ := hI
    obtain ⟨F3, hI⟩ := hI
    obtain ⟨F4, hI⟩ := hI
    obtain ⟨F5, hI⟩ := hI
    obtain ⟨F6, hI⟩ := hI
    obtain ⟨F7, hI⟩ := hI
    obtain ⟨F8, hI⟩ := hI
    obtain ⟨F9, hI⟩ := hI
    obtain ⟨F10, hI⟩ := hI
    obtain ⟨F11, hI⟩ := hI
    obtain ⟨F12, hI⟩ := hI
    obtain ⟨F13, hI⟩ := hI
    obtain ⟨F14, hI⟩ := hI
    obtain ⟨F15, hI⟩ := hI
    obtain ⟨F16, hI⟩ := hI
    obtain ⟨F17, hI⟩ := hI
    obtain ⟨F18, hI⟩ := hI
    obtain ⟨F19, hI⟩ := hI
    have F20 := hI; clear hI
    have hi' : i < 9 := hi
    clear hi
    rcases (by omega : i = 0 ∨ i = 1 ∨ i = 2 ∨ i = 3 ∨ i = 4 ∨ i = 5 ∨ i = 6 ∨ i = 7 ∨ i = 8) with rfl | rfl | rfl | rfl | rfl | rfl | rfl | rfl | rfl
    · simp only [List.getElem?_toArray, List.getElem?_cons_zero, Option.some.injEq] at ho
      subst ho
      have hJ := ln hn F13
      refine wpOp_step rfl (fun K hK => ?_)
      go_simp
      refine hK _ _ ?_
      exact ⟨_, _, _, _, _, _, _, _, rfl, fun _ => rfl, fun h => F1 (ls (by decide) h), fun h => F2 (ls (by decide) h), fun h => F3 (ls (by decide) h), fun h => F4 (ls (by decide) h), fun h => F5 (ls (by decide) h), fun h0 h => (F6 (lsf (by decide) h0) (ls (by decide) h)), fun h0 h => (F7 (lsf (by decide) h0) (ls (by decide) h)), fun h => lc hn (F13 (ls (by decide) h)), F9, fun h0 => (F10 (lsf (by decide) h0)), fun h0 => (F11 (lsf (by decide) h0)), fun h0 => (F12 (lsf (by decide) h0)), fun _ => lself hn, fun h => la (F14 (ls (by decide) h)), fun h => la (F15 (ls (by decide) h)), fun h => la (F16 (ls (by decide) h)), fun h => la (F17 (ls (by decide) h)), fun h => la (F18 (ls (by decide) h)), fun h => la (F19 (ls (by decide) h)), fun h => la (F20 (ls (by decide) h))⟩
    · simp only [List.getElem?_toArray, List.getElem?_cons_zero, List.getElem?_cons_succ, Option.some.injEq] at ho
      subst ho
      have hJ := ln hn F14
      obtain rfl := F0 (hd ⟨0, .data⟩ (by simp) rfl)
      have O'0 := F10 hJ; obtain ⟨_, _, _, _⟩ := id O'0
      have O'1 := F11 hJ; obtain ⟨_, _, _, _⟩ := id O'1
      have O'2 := F12 hJ; obtain ⟨_, _, _, _⟩ := id O'2
      refine wpOp_step rfl (fun K hK => ?_)
      go_simp
      refine hK _ _ ?_
      exact ⟨_, _, _, _, _, _, _, _, rfl, fun h => F0 (ls (by decide) h), fun _ => rfl, fun h => F2 (ls (by decide) h), fun h => F3 (ls (by decide) h), fun h => F4 (ls (by decide) h), fun h => F5 (ls (by decide) h), fun h0 h => (F6 (lsf (by decide) h0) (ls (by decide) h)), fun h0 h => (F7 (lsf (by decide) h0) (ls (by decide) h)), fun h => lc hn (F14 (ls (by decide) h)), F9, fun h0 => (F10 (lsf (by decide) h0)), fun h0 => (F11 (lsf (by decide) h0)), fun h0 => (F12 (lsf (by decide) h0)), fun h => la (F13 (ls (by decide) h)), fun _ => lself hn, fun h => la (F15 (ls (by decide) h)), fun h => la (F16 (ls (by decide) h)), fun h => la (F17 (ls (by decide) h)), fun h => la (F18 (ls (by decide) h)), fun h => la (F19 (ls (by decide) h)), fun h => la (F20 (ls (by decide) h))⟩
    · simp only [List.getElem?_toArray, List.getElem?_cons_zero, List.getElem?_cons_succ, Option.some.injEq] at ho
      subst ho
      have hJ := ln hn F15
      refine wpOp_step rfl (fun K hK => ?_)
      go_simp
      refine hK _ _ ?_
      exact ⟨_, _, _, _, _, _, _, _, rfl, fun h => F0 (ls (by decide) h), fun h => F1 (ls (by decide) h), fun _ => rfl, fun h => F3 (ls (by decide) h), fun h => F4 (ls (by decide) h), fun h => F5 (ls (by decide) h), fun h0 h => (F6 (lsf (by decide) h0) (ls (by decide) h)), fun h0 h => (F7 (lsf (by decide) h0) (ls (by decide) h)), fun h => lc hn (F15 (ls (by decide) h)), F9, fun h0 => (F10 (lsf (by decide) h0)), fun h0 => (F11 (lsf (by decide) h0)), fun h0 => (F12 (lsf (by decide) h0)), fun h => la (F13 (ls (by decide) h)), fun h => la (F14 (ls (by decide) h)), fun _ => lself hn, fun h => la (F16 (ls (by decide) h)), fun h => la (F17 (ls (by decide) h)), fun h => la (F18 (ls (by decide) h)), fun h => la (F19 (ls (by decide) h)), fun h => la (F20 (ls (by decide) h))⟩
    · simp only [List.getElem?_toArray, List.getElem?_cons_zero, List.getElem?_cons_succ, Option.some.injEq] at ho
      subst ho
      have hJ := ln hn F16
      obtain rfl := F2 (hd ⟨2, .data⟩ (by simp) rfl)
      have O'0 := F10 hJ; obtain ⟨_, _, _, _⟩ := id O'0
      have O'1 := F11 hJ; obtain ⟨_, _, _, _⟩ := id O'1
      have O'2 := F12 hJ; obtain ⟨_, _, _, _⟩ := id O'2
      refine wpOp_step rfl (fun K hK => ?_)
      go_simp
      refine hK _ _ ?_
      exact ⟨_, _, _, _, _, _, _, _, rfl, fun h => F0 (ls (by decide) h), fun h => F1 (ls (by decide) h), fun h => F2 (ls (by decide) h), fun _ => rfl, fun h => F4 (ls (by decide) h), fun h => F5 (ls (by decide) h), fun h0 h => (F6 (lsf (by decide) h0) (ls (by decide) h)), fun h0 h => (F7 (lsf (by decide) h0) (ls (by decide) h)), fun h => lc hn (F16 (ls (by decide) h)), F9, fun h0 => (F10 (lsf (by decide) h0)), fun h0 => (F11 (lsf (by decide) h0)), fun h0 => (F12 (lsf (by decide) h0)), fun h => la (F13 (ls (by decide) h)), fun h => la (F14 (ls (by decide) h)), fun h => la (F15 (ls (by decide) h)), fun _ => lself hn, fun h => la (F17 (ls (by decide) h)), fun h => la (F18 (ls (by decide) h)), fun h => la (F19 (ls (by decide) h)), fun h => la (F20 (ls (by decide) h))⟩
    · simp only [List.getElem?_toArray, List.getElem?_cons_zero, List.getElem?_cons_succ, Option.some.injEq] at ho
      subst ho
      have hJ := ln hn F17
      refine wpOp_step rfl (fun K hK => ?_)
      go_simp
      refine hK _ _ ?_
      exact ⟨_, _, _, _, _, _, _, _, rfl, fun h => F0 (ls (by decide) h), fun h => F1 (ls (by decide) h), fun h => F2 (ls (by decide) h), fun h => F3 (ls (by decide) h), fun _ => rfl, fun h => F5 (ls (by decide) h), fun h0 h => (F6 (lsf (by decide) h0) (ls (by decide) h)), fun h0 h => (F7 (lsf (by decide) h0) (ls (by decide) h)), fun h => lc hn (F17 (ls (by decide) h)), F9, fun h0 => (F10 (lsf (by decide) h0)), fun h0 => (F11 (lsf (by decide) h0)), fun h0 => (F12 (lsf (by decide) h0)), fun h => la (F13 (ls (by decide) h)), fun h => la (F14 (ls (by decide) h)), fun h => la (F15 (ls (by decide) h)), fun h => la (F16 (ls (by decide) h)), fun _ => lself hn, fun h => la (F18 (ls (by decide) h)), fun h => la (F19 (ls (by decide) h)), fun h => la (F20 (ls (by decide) h))⟩
    · simp only [List.getElem?_toArray, List.getElem?_cons_zero, List.getElem?_cons_succ, Option.some.injEq] at ho
      subst ho
      have hJ := ln hn F18
      obtain rfl := F4 (hd ⟨4, .data⟩ (by simp) rfl)
      have O'0 := F10 hJ; obtain ⟨_, _, _, _⟩ := id O'0
      have O'1 := F11 hJ; obtain ⟨_, _, _, _⟩ := id O'1
      have O'2 := F12 hJ; obtain ⟨_, _, _, _⟩ := id O'2
      refine wpOp_step rfl (fun K hK => ?_)
      go_simp
      refine hK _ _ ?_
      exact ⟨_, _, _, _, _, _, _, _, rfl, fun h => F0 (ls (by decide) h), fun h => F1 (ls (by decide) h), fun h => F2 (ls (by decide) h), fun h => F3 (ls (by decide) h), fun h => F4 (ls (by decide) h), fun _ => rfl, fun h0 h => (F6 (lsf (by decide) h0) (ls (by decide) h)), fun h0 h => (F7 (lsf (by decide) h0) (ls (by decide) h)), fun h => lc hn (F18 (ls (by decide) h)), F9, fun h0 => (F10 (lsf (by decide) h0)), fun h0 => (F11 (lsf (by decide) h0)), fun h0 => (F12 (lsf (by decide) h0)), fun h => la (F13 (ls (by decide) h)), fun h => la (F14 (ls (by decide) h)), fun h => la (F15 (ls (by decide) h)), fun h => la (F16 (ls (by decide) h)), fun h => la (F17 (ls (by decide) h)), fun _ => lself hn, fun h => la (F19 (ls (by decide) h)), fun h => la (F20 (ls (by decide) h))⟩
    · simp only [List.getElem?_toArray, List.getElem?_cons_zero, List.getElem?_cons_succ, Option.some.injEq] at ho
      subst ho
      have hJ := ln hn F19
      obtain rfl := F3 (hd ⟨3, .data⟩ (by simp) rfl)
      obtain rfl := F5 (hd ⟨5, .data⟩ (by simp) rfl)
      refine wpOp_step rfl (fun K hK => ?_)
      go_simp
      go_at_call 117; refine (HG.out w Pa Pb ca cb (Ha.out.call F9) (Hb.out.call F9) hla hlb).mono ?_; rintro e w' ⟨v, rfl, hof, hb⟩
      refine hK _ _ ?_
      exact ⟨_, _, _, _, _, _, _, _, rfl, fun h => F0 (ls (by decide) h), fun h => F1 (ls (by decide) h), fun h => F2 (ls (by decide) h), fun h => F3 (ls (by decide) h), fun h => F4 (ls (by decide) h), fun h => F5 (ls (by decide) h), fun _ _ => hof, fun h0 h => (F7 (lsf (by decide) h0) (ls (by decide) h)).call hb, fun h => lc hn (F19 (ls (by decide) h)), bt F9 hb, fun h0 => (F10 (lsf (by decide) h0)).call hb, fun h0 => (F11 (lsf (by decide) h0)).call hb, fun h0 => (F12 (lsf (by decide) h0)).call hb, fun h => la (F13 (ls (by decide) h)), fun h => la (F14 (ls (by decide) h)), fun h => la (F15 (ls (by decide) h)), fun h => la (F16 (ls (by decide) h)), fun h => la (F17 (ls (by decide) h)), fun h => la (F18 (ls (by decide) h)), fun _ => lself hn, fun h => la (F20 (ls (by decide) h))⟩
    · simp only [List.getElem?_toArray, List.getElem?_cons_zero, List.getElem?_cons_succ, Option.some.injEq] at ho
      subst ho
      have hJ := ln hn F20
      obtain rfl := F1 (hd ⟨1, .data⟩ (by simp) rfl)
      obtain ⟨A9, c9, rfl, hrd, hl9, hc9⟩ := F6 hJ (hd ⟨6, .data⟩ (by simp) rfl)
      refine wpOp_step rfl (fun K hK => ?_)
      go_simp
      refine hK _ _ ?_
      exact ⟨_, _, _, _, _, _, _, _, rfl, fun h => F0 (ls (by decide) h), fun h => F1 (ls (by decide) h), fun h => F2 (ls (by decide) h), fun h => F3 (ls (by decide) h), fun h => F4 (ls (by decide) h), fun h => F5 (ls (by decide) h), fun h0 h => (F6 (lsf (by decide) h0) (ls (by decide) h)), fun _ _ => ⟨A9, c9, rfl, hrd, hl9, hc9⟩, fun h => lc hn (F20 (ls (by decide) h)), F9, fun h0 => (F10 (lsf (by decide) h0)), fun h0 => (F11 (lsf (by decide) h0)), fun h0 => (F12 (lsf (by decide) h0)), fun h => la (F13 (ls (by decide) h)), fun h => la (F14 (ls (by decide) h)), fun h => la (F15 (ls (by decide) h)), fun h => la (F16 (ls (by decide) h)), fun h => la (F17 (ls (by decide) h)), fun h => la (F18 (ls (by decide) h)), fun h => la (F19 (ls (by decide) h)), fun _ => lself hn⟩
    · simp only [List.getElem?_toArray, List.getElem?_cons_zero, List.getElem?_cons_succ, Option.some.injEq] at ho
      subst ho
      have hJ := lf hn
      obtain ⟨A9, c9, rfl, hrd, hl9, hc9⟩ := F7 hJ (hd ⟨7, .data⟩ (by simp) rfl)
      have O'0 := F10 hJ; obtain ⟨_, _, _, _⟩ := id O'0
      have O'1 := F11 hJ; obtain ⟨_, _, _, _⟩ := id O'1
      have O'2 := F12 hJ; obtain ⟨_, _, _, _⟩ := id O'2
      have K9 := O'2
      refine wpOp_step rfl (fun K hK => ?_)
      go_simp
      refine hK _ _ ?_
      exact ⟨_, _, _, _, _, _, _, _, rfl, fun h => F0 (ls (by decide) h), fun h => F1 (ls (by decide) h), fun h => F2 (ls (by decide) h), fun h => F3 (ls (by decide) h), fun h => F4 (ls (by decide) h), fun h => F5 (ls (by decide) h), fun h => _root_.Go.lx hn h, fun h => _root_.Go.lx hn h, fun _ => ⟨_, _, K9.store _ _, rd_store hrd K9 _ _, hl9, hc9⟩, (bs (bs F9 (by first | (simp; done) | (simp; omega))) (by first | (simp; done) | (simp; omega))), fun h => _root_.Go.lx hn h, fun h => _root_.Go.lx hn h, fun h => _root_.Go.lx hn h, fun _ => la (hd ⟨0, .phase⟩ (by simp) rfl), fun _ => la (hd ⟨1, .phase⟩ (by simp) rfl), fun _ => la (hd ⟨2, .phase⟩ (by simp) rfl), fun _ => la (hd ⟨3, .phase⟩ (by simp) rfl), fun _ => la (hd ⟨4, .phase⟩ (by simp) rfl), fun _ => la (hd ⟨5, .phase⟩ (by simp) rfl), fun _ => la (hd ⟨6, .phase⟩ (by simp) rfl), fun _ => la (hd ⟨7, .phase⟩ (by simp) rfl)⟩
  · intro listed A w hall hI
    unfold AdMI at hI
    obtain ⟨s24, hI⟩ := hI
    obtain ⟨s25, hI⟩ := hI
    obtain ⟨s26, hI⟩ := hI
    obtain ⟨s27, hI⟩ := hI
    obtain ⟨s28, hI⟩ := hI
    obtain ⟨s29, hI⟩ := hI
    obtain ⟨s30, hI⟩ := hI
    obtain ⟨s31, hI⟩ := hI
    obtain ⟨rfl, hI⟩ := hI
    obtain ⟨F0, hI⟩ := hI
    obtain ⟨F1, hI⟩ := hI
    obtain ⟨F2, hI⟩ := hI
    obtain ⟨F3, hI⟩ := hI
    obtain ⟨F4, hI⟩ := hI
    obtain ⟨F5, hI⟩ := hI
    obtain ⟨F6, hI⟩ := hI
    obtain ⟨F7, hI⟩ := hI
    obtain ⟨F8, hI⟩ := hI
    obtain ⟨F9, hI⟩ := hI
    obtain ⟨F10, hI⟩ := hI
    obtain ⟨F11, hI⟩ := hI
    obtain ⟨F12, hI⟩ := hI
    obtain ⟨F13, hI⟩ := hI
    obtain ⟨F14, hI⟩ := hI
    obtain ⟨F15, hI⟩ := hI
    obtain ⟨F16, hI⟩ := hI
    obtain ⟨F17, hI⟩ := hI
    obtain ⟨F18, hI⟩ := hI
    obtain ⟨F19, hI⟩ := hI
    have F20 := hI; clear hI
    obtain rfl := F0 (hall 0 (by decide))
    obtain rfl := F1 (hall 1 (by decide))
    obtain rfl := F2 (hall 2 (by decide))
    obtain rfl := F3 (hall 3 (by decide))
    obtain rfl := F4 (hall 4 (by decide))
    obtain rfl := F5 (hall 5 (by decide))
    have PJ := F8 (hall 8 (by decide))
    have HB := F9
    clear hall F6 F7 F8 F9 F10 F11 F12 F13 F14 F15 F16 F17 F18 F19 F20
    try dsimp only

    exact hQ _ _ _ PJ HB
def AdNI (w0 : World) (na nb : Bool) (Pa Pb : Option Addr) (a b r : List Int) (ca cb : Nat) (c0 c1 c5 c6 c7 c8 c9 c10 c11 c12 c13 c14 c15 c16 c17 c18 c19 c20 c21 c22 c23 c24 c25 c26 c27 c28 c29 c30 c31 : Value) (listed : Array Bool) (A : Act) (w : World) : Prop := ∃ (s32 s33 s34 s35 s36 s37 s38 s39 : Value), A = { tmps := #[c0, c1, .pointer (some ⟨w0.heap.size, 0, none⟩), .pointer (some ⟨w0.heap.size + 1, 0, none⟩), .pointer (some ⟨w0.heap.size + 1 + 1, 0, none⟩), c5, c6, c7, c8, c9, c10, c11, c12, c13, c14, c15, c16, c17, c18, c19, c20, c21, c22, c23, c24, c25, c26, c27, c28, c29, c30, c31, s32, s33, s34, s35, s36, s37, s38, s39], defers := [] } ∧
  (listed.getD 0 false = true → s32 = .pointer (some ⟨w0.heap.size + 1, 0, none⟩)) ∧
  (listed.getD 1 false = true → s33 = .bool nb) ∧
  (listed.getD 2 false = true → s34 = .pointer (some ⟨w0.heap.size + 1, 1, none⟩)) ∧
  (listed.getD 3 false = true → s35 = .slice Pb b.length cb) ∧
  (listed.getD 4 false = true → s36 = .pointer (some ⟨w0.heap.size, 1, none⟩)) ∧
  (listed.getD 5 false = true → s37 = .slice Pa a.length ca) ∧
  (listed.getD 8 false = false → listed.getD 6 false = true → RdF r w s38) ∧
  (listed.getD 8 false = false → listed.getD 7 false = true → OfF nb r w s39) ∧
  (listed.getD 8 false = true → ∃ A9 c9, Own w (w0.heap.size + 1 + 1) (.bool nb) (.slice A9 r.length c9) ∧ Rd w A9 r ∧ r.length ≤ c9 ∧ c9 ≤ 9223372036854775807) ∧
  Below w0.heap.size w0 w ∧
  (listed.getD 8 false = false → Own w (w0.heap.size) (.bool na) (.slice Pa a.length ca)) ∧
  (listed.getD 8 false = false → Own w (w0.heap.size + 1) (.bool nb) (.slice Pb b.length cb)) ∧
  (listed.getD 8 false = false → Own w (w0.heap.size + 1 + 1) (.bool false) (.slice none 0 0)) ∧
  (listed.getD 8 false = true → listed.getD 0 false = true) ∧
  (listed.getD 8 false = true → listed.getD 1 false = true) ∧
  (listed.getD 8 false = true → listed.getD 2 false = true) ∧
  (listed.getD 8 false = true → listed.getD 3 false = true) ∧
  (listed.getD 8 false = true → listed.getD 4 false = true) ∧
  (listed.getD 8 false = true → listed.getD 5 false = true) ∧
  (listed.getD 8 false = true → listed.getD 6 false = true) ∧
  (listed.getD 8 false = true → listed.getD 7 false = true)

set_option maxRecDepth 100000 in
set_option maxHeartbeats 16000000 in
theorem AdN_region (na nb : Bool) (Pa Pb : Option Addr) (a b r : List Int) (ca cb : Nat) (x32 x33 x34 x35 x36 x37 x38 x39 : Value) (c0 c1 c5 c6 c7 c8 c9 c10 c11 c12 c13 c14 c15 c16 c17 c18 c19 c20 c21 c22 c23 c24 c25 c26 c27 c28 c29 c30 c31 : Value) (w0 W : World) (Q : Exit → Act → World → Prop) (hb0 : Below w0.heap.size w0 W) (Aa : Own W w0.heap.size (.bool na) (.slice Pa a.length ca)) (Ab : Own W (w0.heap.size + 1) (.bool nb) (.slice Pb b.length cb)) (Ar : Own W (w0.heap.size + 1 + 1) (.bool false) (.slice none 0 0)) (Ha : Hid (Rd w0 Pa a)) (Hb : Hid (Rd w0 Pb b)) (hla : a.length ≤ ca) (hlb : b.length ≤ cb) (HG : Hid (BinG 117 b a r))
    (hQ : ∀ w y38 y39, (∃ A9 c9, Own w (w0.heap.size + 1 + 1) (.bool nb) (.slice A9 r.length c9) ∧ Rd w A9 r ∧ r.length ≤ c9 ∧ c9 ≤ 9223372036854775807) → Below w0.heap.size w0 w → Q .normal { tmps := #[c0, c1, .pointer (some ⟨w0.heap.size, 0, none⟩), .pointer (some ⟨w0.heap.size + 1, 0, none⟩), .pointer (some ⟨w0.heap.size + 1 + 1, 0, none⟩), c5, c6, c7, c8, c9, c10, c11, c12, c13, c14, c15, c16, c17, c18, c19, c20, c21, c22, c23, c24, c25, c26, c27, c28, c29, c30, c31, .pointer (some ⟨w0.heap.size + 1, 0, none⟩), .bool nb, .pointer (some ⟨w0.heap.size + 1, 1, none⟩), .slice Pb b.length cb, .pointer (some ⟨w0.heap.size, 1, none⟩), .slice Pa a.length ca, y38, y39], defers := [] } w) :
    Code.wp Tryz.prog ((Tryz.f90.body.bind (regionOf 5)).getD .skip) Q { tmps := #[c0, c1, .pointer (some ⟨w0.heap.size, 0, none⟩), .pointer (some ⟨w0.heap.size + 1, 0, none⟩), .pointer (some ⟨w0.heap.size + 1 + 1, 0, none⟩), c5, c6, c7, c8, c9, c10, c11, c12, c13, c14, c15, c16, c17, c18, c19, c20, c21, c22, c23, c24, c25, c26, c27, c28, c29, c30, c31, x32, x33, x34, x35, x36, x37, x38, x39], defers := [] } W := by
  conv => arg 2; whnf
  refine wp_region_inv (by kernel_rfl) (by kernel_rfl) (AdNI w0 na nb Pa Pb a b r ca cb c0 c1 c5 c6 c7 c8 c9 c10 c11 c12 c13 c14 c15 c16 c17 c18 c19 c20 c21 c22 c23 c24 c25 c26 c27 c28 c29 c30 c31) ?_ ?_ ?_
  · exact ⟨_, _, _, _, _, _, _, _, rfl, fun h => absurd h l0, fun h => absurd h l0, fun h => absurd h l0, fun h => absurd h l0, fun h => absurd h l0, fun h => absurd h l0, fun _ h => absurd h l0, fun _ h => absurd h l0, fun h => absurd h l0, bdr hb0, fun _ => Aa.drew, fun _ => Ab.drew, fun _ => Ar.drew, fun h => absurd h l0, fun h => absurd h l0, fun h => absurd h l0, fun h => absurd h l0, fun h => absurd h l0, fun h => absurd h l0, fun h => absurd h l0, fun h => absurd h l0⟩
  · intro i o listed A w hi ho hd hn hI
    unfold AdNI at hI
    obtain ⟨s32, hI⟩ := hI
    obtain ⟨s33, hI⟩ := hI
    obtain ⟨s34, hI⟩ := hI
    obtain ⟨s35, hI⟩ := hI
    obtain ⟨s36, hI⟩ := hI
    obtain ⟨s37, hI⟩ := hI
    obtain ⟨s38, hI⟩ := hI
    obtain ⟨s39, hI⟩ := hI
    obtain ⟨rfl, hI⟩ := hI
    obtain ⟨F0, hI⟩ := hI
    obtain ⟨F1, hI⟩ := hI
    obtain ⟨F2, hI⟩ := hI
    obtain ⟨F3, hI⟩ := hI
    obtain ⟨F4, hI⟩ := hI
    obtain ⟨F5, hI⟩ := hI
    obtain ⟨F6, hI⟩ := hI
    obtain ⟨F7, hI⟩ := hI
    obtain ⟨F8, hI⟩ := hI
    obtain ⟨F9, hI⟩ := hI
    obtain ⟨F10, hI⟩ := hI
    obtain ⟨F11, hI⟩ := hI
    obtain ⟨F12, hI⟩ := hI
    obtain ⟨F13, hI⟩ := hI
    obtain ⟨F14, hI⟩ := hI
    obtain ⟨F15, hI⟩ := hI
    obtain ⟨F16, hI⟩ := hI
    obtain ⟨F17, hI⟩ := hI
    obtain ⟨F18, hI⟩ := hI
    obtain ⟨F19, hI⟩ := hI
    have F20 := hI; clear hI
    have hi' : i < 9 := hi
    clear hi
    rcases (by omega : i = 0 ∨ i = 1 ∨ i = 2 ∨ i = 3 ∨ i = 4 ∨ i = 5 ∨ i = 6 ∨ i = 7 ∨ i = 8) with rfl | rfl | rfl | rfl | rfl | rfl | rfl | rfl | rfl
    · simp only [List.getElem?_toArray, List.getElem?_cons_zero, Option.some.injEq] at ho
      subst ho
      have hJ := ln hn F13
      refine wpOp_step rfl (fun K hK => ?_)
      go_simp
      refine hK _ _ ?_
      exact ⟨_, _, _, _, _, _, _, _, rfl, fun _ => rfl, fun h => F1 (ls (by decide) h), fun h => F2 (ls (by decide) h), fun h => F3 (ls (by decide) h), fun h => F4 (ls (by decide) h), fun h => F5 (ls (by decide) h), fun h0 h => (F6 (lsf (by decide) h0) (ls (by decide) h)), fun h0 h => (F7 (lsf (by decide) h0) (ls (by decide) h)), fun h => lc hn (F13 (ls (by decide) h)), F9, fun h0 => (F10 (lsf (by decide) h0)), fun h0 => (F11 (lsf (by decide) h0)), fun h0 => (F12 (lsf (by decide) h0)), fun _ => lself hn, fun h => la (F14 (ls (by decide) h)), fun h => la (F15 (ls (by decide) h)), fun h => la (F16 (ls (by decide) h)), fun h => la (F17 (ls (by decide) h)), fun h => la (F18 (ls (by decide) h)), fun h => la (F19 (ls (by decide) h)), fun h => la (F20 (ls (by decide) h))⟩
    · simp only [List.getElem?_toArray, List.getElem?_cons_zero, List.getElem?_cons_succ, Option.some.injEq] at ho
      subst ho
      have hJ := ln hn F14
      obtain rfl := F0 (hd ⟨0, .data⟩ (by simp) rfl)
      have O'0 := F10 hJ; obtain ⟨_, _, _, _⟩ := id O'0
      have O'1 := F11 hJ; obtain ⟨_, _, _, _⟩ := id O'1
      have O'2 := F12 hJ; obtain ⟨_, _, _, _⟩ := id O'2
      refine wpOp_step rfl (fun K hK => ?_)
      go_simp
      refine hK _ _ ?_
      exact ⟨_, _, _, _, _, _, _, _, rfl, fun h => F0 (ls (by decide) h), fun _ => rfl, fun h => F2 (ls (by decide) h), fun h => F3 (ls (by decide) h), fun h => F4 (ls (by decide) h), fun h => F5 (ls (by decide) h), fun h0 h => (F6 (lsf (by decide) h0) (ls (by decide) h)), fun h0 h => (F7 (lsf (by decide) h0) (ls (by decide) h)), fun h => lc hn (F14 (ls (by decide) h)), F9, fun h0 => (F10 (lsf (by decide) h0)), fun h0 => (F11 (lsf (by decide) h0)), fun h0 => (F12 (lsf (by decide) h0)), fun h => la (F13 (ls (by decide) h)), fun _ => lself hn, fun h => la (F15 (ls (by decide) h)), fun h => la (F16 (ls (by decide) h)), fun h => la (F17 (ls (by decide) h)), fun h => la (F18 (ls (by decide) h)), fun h => la (F19 (ls (by decide) h)), fun h => la (F20 (ls (by decide) h))⟩
    · simp only [List.getElem?_toArray, List.getElem?_cons_zero, List.getElem?_cons_succ, Option.some.injEq] at ho
      subst ho
      have hJ := ln hn F15
      refine wpOp_step rfl (fun K hK => ?_)
      go_simp
      refine hK _ _ ?_
      exact ⟨_, _, _, _, _, _, _, _, rfl, fun h => F0 (ls (by decide) h), fun h => F1 (ls (by decide) h), fun _ => rfl, fun h => F3 (ls (by decide) h), fun h => F4 (ls (by decide) h), fun h => F5 (ls (by decide) h), fun h0 h => (F6 (lsf (by decide) h0) (ls (by decide) h)), fun h0 h => (F7 (lsf (by decide) h0) (ls (by decide) h)), fun h => lc hn (F15 (ls (by decide) h)), F9, fun h0 => (F10 (lsf (by decide) h0)), fun h0 => (F11 (lsf (by decide) h0)), fun h0 => (F12 (lsf (by decide) h0)), fun h => la (F13 (ls (by decide) h)), fun h => la (F14 (ls (by decide) h)), fun _ => lself hn, fun h => la (F16 (ls (by decide) h)), fun h => la (F17 (ls (by decide) h)), fun h => la (F18 (ls (by decide) h)), fun h => la (F19 (ls (by decide) h)), fun h => la (F20 (ls (by decide) h))⟩
    · simp only [List.getElem?_toArray, List.getElem?_cons_zero, List.getElem?_cons_succ, Option.some.injEq] at ho
      subst ho
      have hJ := ln hn F16
      obtain rfl := F2 (hd ⟨2, .data⟩ (by simp) rfl)
      have O'0 := F10 hJ; obtain ⟨_, _, _, _⟩ := id O'0
      have O'1 := F11 hJ; obtain ⟨_, _, _, _⟩ := id O'1
      have O'2 := F12 hJ; obtain ⟨_, _, _, _⟩ := id O'2
      refine wpOp_step rfl (fun K hK => ?_)
      go_simp
      refine hK _ _ ?_
      exact ⟨_, _, _, _, _, _, _, _, rfl, fun h => F0 (ls (by decide) h), fun h => F1 (ls (by decide) h), fun h => F2 (ls (by decide) h), fun _ => rfl, fun h => F4 (ls (by decide) h), fun h => F5 (ls (by decide) h), fun h0 h => (F6 (lsf (by decide) h0) (ls (by decide) h)), fun h0 h => (F7 (lsf (by decide) h0) (ls (by decide) h)), fun h => lc hn (F16 (ls (by decide) h)), F9, fun h0 => (F10 (lsf (by decide) h0)), fun h0 => (F11 (lsf (by decide) h0)), fun h0 => (F12 (lsf (by decide) h0)), fun h => la (F13 (ls (by decide) h)), fun h => la (F14 (ls (by decide) h)), fun h => la (F15 (ls (by decide) h)), fun _ => lself hn, fun h => la (F17 (ls (by decide) h)), fun h => la (F18 (ls (by decide) h)), fun h => la (F19 (ls (by decide) h)), fun h => la (F20 (ls (by decide) h))⟩
    · simp only [List.getElem?_toArray, List.getElem?_cons_zero, List.getElem?_cons_succ, Option.some.injEq] at ho
      subst ho
      have hJ := ln hn F17
      refine wpOp_step rfl (fun K hK => ?_)
      go_simp
      refine hK _ _ ?_
      exact ⟨_, _, _, _, _, _, _, _, rfl, fun h => F0 (ls (by decide) h), fun h => F1 (ls (by decide) h), fun h => F2 (ls (by decide) h), fun h => F3 (ls (by decide) h), fun _ => rfl, fun h => F5 (ls (by decide) h), fun h0 h => (F6 (lsf (by decide) h0) (ls (by decide) h)), fun h0 h => (F7 (lsf (by decide) h0) (ls (by decide) h)), fun h => lc hn (F17 (ls (by decide) h)), F9, fun h0 => (F10 (lsf (by decide) h0)), fun h0 => (F11 (lsf (by decide) h0)), fun h0 => (F12 (lsf (by decide) h0)), fun h => la (F13 (ls (by decide) h)), fun h => la (F14 (ls (by decide) h)), fun h => la (F15 (ls (by decide) h)), fun h => la (F16 (ls (by decide) h)), fun _ => lself hn, fun h => la (F18 (ls (by decide) h)), fun h => la (F19 (ls (by decide) h)), fun h => la (F20 (ls (by decide) h))⟩
    · simp only [List.getElem?_toArray, List.getElem?_cons_zero, List.getElem?_cons_succ, Option.some.injEq] at ho
      subst ho
      have hJ := ln hn F18
      obtain rfl := F4 (hd ⟨4, .data⟩ (by simp) rfl)
      have O'0 := F10 hJ; obtain ⟨_, _, _, _⟩ := id O'0
      have O'1 := F11 hJ; obtain ⟨_, _, _, _⟩ := id O'1
      have O'2 := F12 hJ; obtain ⟨_, _, _, _⟩ := id O'2
      refine wpOp_step rfl (fun K hK => ?_)
      go_simp
      refine hK _ _ ?_
      exact ⟨_, _, _, _, _, _, _, _, rfl, fun h => F0 (ls (by decide) h), fun h => F1 (ls (by decide) h), fun h => F2 (ls (by decide) h), fun h => F3 (ls (by decide) h), fun h => F4 (ls (by decide) h), fun _ => rfl, fun h0 h => (F6 (lsf (by decide) h0) (ls (by decide) h)), fun h0 h => (F7 (lsf (by decide) h0) (ls (by decide) h)), fun h => lc hn (F18 (ls (by decide) h)), F9, fun h0 => (F10 (lsf (by decide) h0)), fun h0 => (F11 (lsf (by decide) h0)), fun h0 => (F12 (lsf (by decide) h0)), fun h => la (F13 (ls (by decide) h)), fun h => la (F14 (ls (by decide) h)), fun h => la (F15 (ls (by decide) h)), fun h => la (F16 (ls (by decide) h)), fun h => la (F17 (ls (by decide) h)), fun _ => lself hn, fun h => la (F19 (ls (by decide) h)), fun h => la (F20 (ls (by decide) h))⟩
    · simp only [List.getElem?_toArray, List.getElem?_cons_zero, List.getElem?_cons_succ, Option.some.injEq] at ho
      subst ho
      have hJ := ln hn F19
      obtain rfl := F3 (hd ⟨3, .data⟩ (by simp) rfl)
      obtain rfl := F5 (hd ⟨5, .data⟩ (by simp) rfl)
      refine wpOp_step rfl (fun K hK => ?_)
      go_simp
      go_at_call 117; refine (HG.out w Pb Pa cb ca (Hb.out.call F9) (Ha.out.call F9) hlb hla).mono ?_; rintro e w' ⟨v, rfl, hof, hb⟩
      refine hK _ _ ?_
      exact ⟨_, _, _, _, _, _, _, _, rfl, fun h => F0 (ls (by decide) h), fun h => F1 (ls (by decide) h), fun h => F2 (ls (by decide) h), fun h => F3 (ls (by decide) h), fun h => F4 (ls (by decide) h), fun h => F5 (ls (by decide) h), fun _ _ => hof, fun h0 h => (F7 (lsf (by decide) h0) (ls (by decide) h)).call hb, fun h => lc hn (F19 (ls (by decide) h)), bt F9 hb, fun h0 => (F10 (lsf (by decide) h0)).call hb, fun h0 => (F11 (lsf (by decide) h0)).call hb, fun h0 => (F12 (lsf (by decide) h0)).call hb, fun h => la (F13 (ls (by decide) h)), fun h => la (F14 (ls (by decide) h)), fun h => la (F15 (ls (by decide) h)), fun h => la (F16 (ls (by decide) h)), fun h => la (F17 (ls (by decide) h)), fun h => la (F18 (ls (by decide) h)), fun _ => lself hn, fun h => la (F20 (ls (by decide) h))⟩
    · simp only [List.getElem?_toArray, List.getElem?_cons_zero, List.getElem?_cons_succ, Option.some.injEq] at ho
      subst ho
      have hJ := ln hn F20
      obtain rfl := F1 (hd ⟨1, .data⟩ (by simp) rfl)
      obtain ⟨A9, c9, rfl, hrd, hl9, hc9⟩ := F6 hJ (hd ⟨6, .data⟩ (by simp) rfl)
      refine wpOp_step rfl (fun K hK => ?_)
      go_simp
      refine hK _ _ ?_
      exact ⟨_, _, _, _, _, _, _, _, rfl, fun h => F0 (ls (by decide) h), fun h => F1 (ls (by decide) h), fun h => F2 (ls (by decide) h), fun h => F3 (ls (by decide) h), fun h => F4 (ls (by decide) h), fun h => F5 (ls (by decide) h), fun h0 h => (F6 (lsf (by decide) h0) (ls (by decide) h)), fun _ _ => ⟨A9, c9, rfl, hrd, hl9, hc9⟩, fun h => lc hn (F20 (ls (by decide) h)), F9, fun h0 => (F10 (lsf (by decide) h0)), fun h0 => (F11 (lsf (by decide) h0)), fun h0 => (F12 (lsf (by decide) h0)), fun h => la (F13 (ls (by decide) h)), fun h => la (F14 (ls (by decide) h)), fun h => la (F15 (ls (by decide) h)), fun h => la (F16 (ls (by decide) h)), fun h => la (F17 (ls (by decide) h)), fun h => la (F18 (ls (by decide) h)), fun h => la (F19 (ls (by decide) h)), fun _ => lself hn⟩
    · simp only [List.getElem?_toArray, List.getElem?_cons_zero, List.getElem?_cons_succ, Option.some.injEq] at ho
      subst ho
      have hJ := lf hn
      obtain ⟨A9, c9, rfl, hrd, hl9, hc9⟩ := F7 hJ (hd ⟨7, .data⟩ (by simp) rfl)
      have O'0 := F10 hJ; obtain ⟨_, _, _, _⟩ := id O'0
      have O'1 := F11 hJ; obtain ⟨_, _, _, _⟩ := id O'1
      have O'2 := F12 hJ; obtain ⟨_, _, _, _⟩ := id O'2
      have K9 := O'2
      refine wpOp_step rfl (fun K hK => ?_)
      go_simp
      refine hK _ _ ?_
      exact ⟨_, _, _, _, _, _, _, _, rfl, fun h => F0 (ls (by decide) h), fun h => F1 (ls (by decide) h), fun h => F2 (ls (by decide) h), fun h => F3 (ls (by decide) h), fun h => F4 (ls (by decide) h), fun h => F5 (ls (by decide) h), fun h => _root_.Go.lx hn h, fun h => _root_.Go.lx hn h, fun _ => ⟨_, _, K9.store _ _, rd_store hrd K9 _ _, hl9, hc9⟩, (bs (bs F9 (by first | (simp; done) | (simp; omega))) (by first | (simp; done) | (simp; omega))), fun h => _root_.Go.lx hn h, fun h => _root_.Go.lx hn h, fun h => _root_.Go.lx hn h, fun _ => la (hd ⟨0, .phase⟩ (by simp) rfl), fun _ => la (hd ⟨1, .phase⟩ (by simp) rfl), fun _ => la (hd ⟨2, .phase⟩ (by simp) rfl), fun _ => la (hd ⟨3, .phase⟩ (by simp) rfl), fun _ => la (hd ⟨4, .phase⟩ (by simp) rfl), fun _ => la (hd ⟨5, .phase⟩ (by simp) rfl), fun _ => la (hd ⟨6, .phase⟩ (by simp) rfl), fun _ => la (hd ⟨7, .phase⟩ (by simp) rfl)⟩
  · intro listed A w hall hI
    unfold AdNI at hI
    obtain ⟨s32, hI⟩ := hI
    obtain ⟨s33, hI⟩ := hI
    obtain ⟨s34, hI⟩ := hI
    obtain ⟨s35, hI⟩ := hI
    obtain ⟨s36, hI⟩ := hI
    obtain ⟨s37, hI⟩ := hI
    obtain ⟨s38, hI⟩ := hI
    obtain ⟨s39, hI⟩ := hI
    obtain ⟨rfl, hI⟩ := hI
    obtain ⟨F0, hI⟩ := hI
    obtain ⟨F1, hI⟩ := hI
    obtain ⟨F2, hI⟩ := hI
    obtain ⟨F3, hI⟩ := hI
    obtain ⟨F4, hI⟩ := hI
    obtain ⟨F5, hI⟩ := hI
    obtain ⟨F6, hI⟩ := hI
    obtain ⟨F7, hI⟩ := hI
    obtain ⟨F8, hI⟩ := hI
    obtain ⟨F9, hI⟩ := hI
    obtain ⟨F10, hI⟩ := hI
    obtain ⟨F11, hI⟩ := hI
    obtain ⟨F12, hI⟩ := hI
    obtain ⟨F13, hI⟩ := hI
    obtain ⟨F14, hI⟩ := hI
    obtain ⟨F15, hI⟩ := hI
    obtain ⟨F16, hI⟩ := hI
    obtain ⟨F17, hI⟩ := hI
    obtain ⟨F18, hI⟩ := hI
    obtain ⟨F19, hI⟩ := hI
    have F20 := hI; clear hI
    obtain rfl := F0 (hall 0 (by decide))
    obtain rfl := F1 (hall 1 (by decide))
    obtain rfl := F2 (hall 2 (by decide))
    obtain rfl := F3 (hall 3 (by decide))
    obtain rfl := F4 (hall 4 (by decide))
    obtain rfl := F5 (hall 5 (by decide))
    have PJ := F8 (hall 8 (by decide))
    have HB := F9
    clear hall F6 F7 F8 F9 F10 F11 F12 F13 F14 F15 F16 F17 F18 F19 F20
    try dsimp only

    exact hQ _ _ _ PJ HB
end Go.Proofs
namespace Go.Proofs
open Go.Shelf Go.RowKit Go.Proofs.Wide Go.Proofs.Dig
/-- A whole number as the reference holds it: its sign, its digits. -/
def BigZ (neg : Bool) (l : List Int) : Int := sg neg (val l)
/-- The reference's sum of whole numbers. -/
def addB (na nb : Bool) (a b : List Int) : Bool × List Int :=
  if na = nb then (na, digs (val a + val b).toNat) else if val b ≤ val a then (na, digs (val a - val b).toNat) else (nb, digs (val b - val a).toNat)
set_option maxRecDepth 100000 in
set_option maxHeartbeats 4000000 in
theorem refAdd_any (na nb : Bool) (A B : Option Addr) (a b : List Int) (ca cb : Nat) (w0 : World) (ha : Canon a) (hb : Canon b) (hra : Rd w0 A a) (hrb : Rd w0 B b) (hla : a.length ≤ ca) (hlb : b.length ≤ cb) (ha6 : a.length ≤ 1000000) (hb6 : b.length ≤ 1000000) :
    Calls Tryz.prog 90 #[.agg #[.bool na, .slice A a.length ca], .agg #[.bool nb, .slice B b.length cb]] w0 fun e w' => ∃ v, e = .returned v ∧ OfF (addB na nb a b).1 (addB na nb a b).2 w' v ∧ Below w0.heap.size w0 w' := by
  have Ha := Lib.hid hra; have Hb := Lib.hid hrb
  have HC := Lib.hid (refCmp_any A B a b ca cb)
  have HCa := Lib.hid ha; have HCb := Lib.hid hb
  clear hra hrb ha hb
  by_cases hn : na = nb
  · subst hn
    have hA : addB na na a b = (na, digs (val a + val b).toNat) := by unfold addB; rw [if_pos rfl]
    rw [hA]
    have HG := Lib.hid (plus_g a b HCa.out HCb.out ha6 hb6)
    have hnn : (na == na) = true := by simp
    clear hA
    go_enter Tryz.func90, Tryz.ntmps90
    go_upto_region 2 with fail
    refine AdP_region na na A B a b (digs (val a + val b).toNat) ca cb _ _ _ _ _ _ _ _ _ _ _ _ _ _ _ _ _ _ _ _ _ _ _ _ _ _ _ _ _ _ _ _ _ _ _ _ _ w0 _ _ (ba (ba (ba (Below.refl _ _)))) (((Own.new_at rfl).alloc _).alloc _) ((Own.new_at (by simp)).alloc _) (Own.new_at (by simp)) Ha Hb hla hlb HG ?_
    intro w' y16 y17 PJ HB
    obtain ⟨A9, c9, K9, hr9, hl9, hc9⟩ := PJ
    obtain ⟨_, _, _, _⟩ := id K9
    go_wp2
    exact bodyPost_ret (v := .agg #[.bool na, .slice A9 (digs (val a + val b).toNat).length c9]) (by simp [results, Tryz.results90, go_sem, *]) rfl ⟨_, rfl, ⟨A9, c9, rfl, hr9, hl9, hc9⟩, HB⟩
  · have hnn : (na == nb) = false := by simpa using hn
    by_cases hge : val b ≤ val a
    · have hA : addB na nb a b = (na, digs (val a - val b).toNat) := by unfold addB; rw [if_neg hn, if_pos hge]
      have hc : decide ((0 : Int) ≤ cmpV (val a) (val b)) = true := by unfold cmpV; simp; split <;> (try split) <;> omega
      obtain ⟨cv, hcv⟩ : ∃ cv, cmpV (val a) (val b) = cv := ⟨_, rfl⟩
      rw [hcv] at HC hc
      rw [hA]
      have HG := Lib.hid (minus_g a b HCa.out HCb.out hge ha6)
      clear hA hge hn hcv
      go_enter Tryz.func90, Tryz.ntmps90
      go_upto_region 4 with (go_at_call 116; refine (HC.out _ HCa.out HCb.out (Ha.out.call (ba (ba (ba (Below.refl _ _))))) (Hb.out.call (ba (ba (ba (Below.refl _ _))))) hla hlb ha6).mono ?_; rintro e w1 ⟨rfl, hb1⟩; have B1 := bt (ba (ba (ba (Below.refl _ _)))) hb1)
      refine AdM_region na nb A B a b (digs (val a - val b).toNat) ca cb _ _ _ _ _ _ _ _ _ _ _ _ _ _ _ _ _ _ _ _ _ _ _ _ _ _ _ _ _ _ _ _ _ _ _ _ _ w0 _ _ B1 ((((Own.new_at rfl).alloc _).alloc _ : Own _ w0.heap.size _ _).call hb1) ((((Own.new_at (by simp)).alloc _ : Own _ (w0.heap.size + 1) _ _)).call hb1) ((Own.new_at (by simp) : Own _ (w0.heap.size + 1 + 1) _ _).call hb1) Ha Hb hla hlb HG ?_
      intro w' y16 y17 PJ HB
      obtain ⟨A9, c9, K9, hr9, hl9, hc9⟩ := PJ
      obtain ⟨_, _, _, _⟩ := id K9
      go_wp2
      exact bodyPost_ret (v := .agg #[.bool na, .slice A9 (digs (val a - val b).toNat).length c9]) (by simp [results, Tryz.results90, go_sem, *]) rfl ⟨_, rfl, ⟨A9, c9, rfl, hr9, hl9, hc9⟩, HB⟩
    · have hA : addB na nb a b = (nb, digs (val b - val a).toNat) := by unfold addB; rw [if_neg hn, if_neg hge]
      have hc : decide ((0 : Int) ≤ cmpV (val a) (val b)) = false := by unfold cmpV; simp; split <;> (try split) <;> omega
      obtain ⟨cv, hcv⟩ : ∃ cv, cmpV (val a) (val b) = cv := ⟨_, rfl⟩
      rw [hcv] at HC hc
      rw [hA]
      have HG := Lib.hid (minus_g b a HCb.out HCa.out (by omega) hb6)
      clear hA hge hn hcv
      go_enter Tryz.func90, Tryz.ntmps90
      go_upto_region 5 with (go_at_call 116; refine (HC.out _ HCa.out HCb.out (Ha.out.call (ba (ba (ba (Below.refl _ _))))) (Hb.out.call (ba (ba (ba (Below.refl _ _))))) hla hlb ha6).mono ?_; rintro e w1 ⟨rfl, hb1⟩; have B1 := bt (ba (ba (ba (Below.refl _ _)))) hb1)
      refine AdN_region na nb A B a b (digs (val b - val a).toNat) ca cb _ _ _ _ _ _ _ _ _ _ _ _ _ _ _ _ _ _ _ _ _ _ _ _ _ _ _ _ _ _ _ _ _ _ _ _ _ w0 _ _ B1 ((((Own.new_at rfl).alloc _).alloc _ : Own _ w0.heap.size _ _).call hb1) ((((Own.new_at (by simp)).alloc _ : Own _ (w0.heap.size + 1) _ _)).call hb1) ((Own.new_at (by simp) : Own _ (w0.heap.size + 1 + 1) _ _).call hb1) Ha Hb hla hlb HG ?_
      intro w' y16 y17 PJ HB
      obtain ⟨A9, c9, K9, hr9, hl9, hc9⟩ := PJ
      obtain ⟨_, _, _, _⟩ := id K9
      go_wp2
      exact bodyPost_ret (v := .agg #[.bool nb, .slice A9 (digs (val b - val a).toNat).length c9]) (by simp [results, Tryz.results90, go_sem, *]) rfl ⟨_, rfl, ⟨A9, c9, rfl, hr9, hl9, hc9⟩, HB⟩
end Go.Proofs
