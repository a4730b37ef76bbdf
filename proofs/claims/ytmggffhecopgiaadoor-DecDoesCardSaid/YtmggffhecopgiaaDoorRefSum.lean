/- The reference adds, raises, multiplies and divides whole numbers. No condition beyond what the theorems state. -/
import Derived.Test.YtmggffhecopgiaaDoorRefOrder
import Derived.Test.YtmggffhecopgiaaDoorRefFormat
import Derived.Test.YtmggffhecopgiaaDoorRoundsEnd
import Derived.Test.YtmggffhecopgiaaDoorFormsFit
import Derived.Test.YtmggffhecopgiaaDoorRowWords
namespace Go.Proofs
open Go.Shelf Go.RowKit Go.Proofs.Wide Go.Proofs.Dig
def RdF (l : List Int) (w : World) (s : Value) : Prop := ∃ A c, s = .slice A l.length c ∧ Rd w A l ∧ l.length ≤ c ∧ c ≤ 9223372036854775807
theorem RdF.call {l : List Int} {w w' : World} {s : Value} (h : RdF l w s) (hb : Below w.heap.size w w') : RdF l w' s := by
  obtain ⟨A, c, hs, hr, h1, h2⟩ := h
  exact ⟨A, c, hs, hr.call hb, h1, h2⟩
theorem Rd.set_ne {l : List Int} {w : World} {A : Option Addr} (h : Rd w A l) {p : Addr} {x : Value} (hp : w.cell? p = some x) (hx : ∀ d : Int, x ≠ .int .i64 d) (u : Value) : Rd (w.setCell p u) A l := fun hne => by
  obtain ⟨ad, e, hc⟩ := h hne
  refine ⟨ad, e, fun j d hd => ?_⟩
  have h1 := hc j d hd
  rw [World.cell?_setCell_other _ _ _ _ (fun e => by rw [← e, hp] at h1; injection h1 with h1; exact hx d h1)]
  exact h1
theorem rd_store {l : List Int} {w : World} {A : Option Addr} {g : Nat} {b : Bool} {y0 : Option Addr} {y1 y2 : Nat} (h : Rd w A l) (K : Own w g (.bool b) (.slice y0 y1 y2)) (u v : Value) : Rd ((w.setCell ⟨g, 0, none⟩ u).setCell ⟨g, 1, none⟩ v) A l := by
  refine (h.set_ne K.1 (fun d => by simp) u).set_ne (x := .slice y0 y1 y2) ?_ (fun d => by simp) v
  rw [World.cell?_setCell_other _ _ _ _ (by simp)]
  exact K.2.1
/-- A binary operation of the reference's on digits. -/
def BinG (f : Nat) (a b r : List Int) : Prop := ∀ (w : World) (A B : Option Addr) (c1 c2 : Nat), Rd w A a → Rd w B b → a.length ≤ c1 → b.length ≤ c2 →
  Calls Tryd.prog f #[.slice A a.length c1, .slice B b.length c2] w fun e w' => ∃ v, e = .returned v ∧ RdF r w' v ∧ Below w.heap.size w w'
theorem plus_g (a b : List Int) (ha : Canon a) (hb : Canon b) (ha6 : a.length ≤ 1000000) (hb6 : b.length ≤ 1000000) : BinG 74 a b (digs (val a + val b).toNat) := fun w A B c1 c2 hA hB h1 h2 =>
  (refPlus_any A B a b c1 c2 w ha hb hA hB h1 h2 ha6 hb6).mono fun e w' h => by
    obtain ⟨v, rfl, hown, hb⟩ := h
    obtain ⟨A', c', rfl⟩ := own_slice hown
    obtain ⟨hr, q1, q2⟩ := rd_of_row hown rfl
    exact ⟨_, rfl, ⟨A', c', rfl, hr, q1, q2⟩, hb⟩
theorem minus_g (a b : List Int) (ha : Canon a) (hb : Canon b) (hge : val b ≤ val a) (ha6 : a.length ≤ 1000000) : BinG 76 a b (digs (val a - val b).toNat) := fun w A B c1 c2 hA hB h1 h2 =>
  (refMinus_any A B a b c1 c2 w ha hb hge hA hB h1 h2 ha6).mono fun e w' h => by
    obtain ⟨A', c', rfl, hr, q1, q2, hb⟩ := h
    exact ⟨_, rfl, ⟨A', c', rfl, hr, q1, q2⟩, hb⟩
def AdPI (w0 : World) (na nb : Bool) (Pa Pb : Option Addr) (a b r : List Int) (ca cb : Nat) (c0 c1 c5 c6 c7 c8 c9 c18 c19 c20 c21 c22 c23 c24 c25 c26 c27 c28 c29 c30 c31 c32 c33 c34 c35 c36 c37 c38 c39 : Value) (listed : Array Bool) (A : Act) (w : World) : Prop := ∃ (s10 s11 s12 s13 s14 s15 s16 s17 : Value), A = { tmps := #[c0, c1, .pointer (some ⟨w0.heap.size, 0, none⟩), .pointer (some ⟨w0.heap.size + 1, 0, none⟩), .pointer (some ⟨w0.heap.size + 1 + 1, 0, none⟩), c5, c6, c7, c8, c9, s10, s11, s12, s13, s14, s15, s16, s17, c18, c19, c20, c21, c22, c23, c24, c25, c26, c27, c28, c29, c30, c31, c32, c33, c34, c35, c36, c37, c38, c39], defers := [] } ∧
  (listed.getD 0 false = true → s10 = .pointer (some ⟨w0.heap.size, 0, none⟩)) ∧
  (listed.getD 1 false = true → s11 = .bool na) ∧
  (listed.getD 2 false = true → s12 = .pointer (some ⟨w0.heap.size, 1, none⟩)) ∧
  (listed.getD 3 false = true → s13 = .slice Pa a.length ca) ∧
  (listed.getD 4 false = true → s14 = .pointer (some ⟨w0.heap.size + 1, 1, none⟩)) ∧
  (listed.getD 5 false = true → s15 = .slice Pb b.length cb) ∧
  (listed.getD 8 false = false → listed.getD 6 false = true → RdF r w s16) ∧
  (listed.getD 8 false = false → listed.getD 7 false = true → OfF na r w s17) ∧
  (listed.getD 8 false = true → ∃ A9 c9, Own w (w0.heap.size + 1 + 1) (.bool na) (.slice A9 r.length c9) ∧ Rd w A9 r ∧ r.length ≤ c9 ∧ c9 ≤ 9223372036854775807) ∧
  Below w0.heap.size w0 w ∧
  (listed.getD 8 false = false → Own w (w0.heap.size) (.bool na) (.slice Pa a.length ca)) ∧
  (listed.getD 8 false = false → Own w (w0.heap.size + 1) (.bool nb) (.slice Pb b.length cb)) ∧
  (listed.getD 8 false = false → Own w (w0.heap.size + 1 + 1) (.bool false) (.slice none 0 0)) ∧
  (listed.getD 8 false = true → listed.getD 0 false = true) ∧
  (listed.getD 8 false = true → listed.getD 1 false = true) ∧
  (listed.getD 8 false = true → listed.getD 2 false = true) ∧
  (listed.getD 8 false = true → listed.getD 3 false = true) ∧
  (listed.getD 8 false = true → listed.getD 4 false = true) ∧
  (listed.getD 8 false = true → listed.getD 5 false = true) ∧
  (listed.getD 8 false = true → listed.getD 6 false = true) ∧
  (listed.getD 8 false = true → listed.getD 7 false = true)

set_option maxRecDepth 100000 in
set_option maxHeartbeats 16000000 in
theorem AdP_region (na nb : Bool) (Pa Pb : Option Addr) (a b r : List Int) (ca cb : Nat) (x10 x11 x12 x13 x14 x15 x16 x17 : Value) (c0 c1 c5 c6 c7 c8 c9 c18 c19 c20 c21 c22 c23 c24 c25 c26 c27 c28 c29 c30 c31 c32 c33 c34 c35 c36 c37 c38 c39 : Value) (w0 W : World) (Q : Exit → Act → World → Prop) (hb0 : Below w0.heap.size w0 W) (Aa : Own W w0.heap.size (.bool na) (.slice Pa a.length ca)) (Ab : Own W (w0.heap.size + 1) (.bool nb) (.slice Pb b.length cb)) (Ar : Own W (w0.heap.size + 1 + 1) (.bool false) (.slice none 0 0)) (Ha : Hid (Rd w0 Pa a)) (Hb : Hid (Rd w0 Pb b)) (hla : a.length ≤ ca) (hlb : b.length ≤ cb) (HG : Hid (BinG 74 a b r))
    (hQ : ∀ w y16 y17, (∃ A9 c9, Own w (w0.heap.size + 1 + 1) (.bool na) (.slice A9 r.length c9) ∧ Rd w A9 r ∧ r.length ≤ c9 ∧ c9 ≤ 9223372036854775807) → Below w0.heap.size w0 w → Q .normal { tmps := #[c0, c1, .pointer (some ⟨w0.heap.size, 0, none⟩), .pointer (some ⟨w0.heap.size + 1, 0, none⟩), .pointer (some ⟨w0.heap.size + 1 + 1, 0, none⟩), c5, c6, c7, c8, c9, .pointer (some ⟨w0.heap.size, 0, none⟩), .bool na, .pointer (some ⟨w0.heap.size, 1, none⟩), .slice Pa a.length ca, .pointer (some ⟨w0.heap.size + 1, 1, none⟩), .slice Pb b.length cb, y16, y17, c18, c19, c20, c21, c22, c23, c24, c25, c26, c27, c28, c29, c30, c31, c32, c33, c34, c35, c36, c37, c38, c39], defers := [] } w) :
    Code.wp Tryd.prog ((Tryd.f51.body.bind (regionOf 2)).getD .skip) Q { tmps := #[c0, c1, .pointer (some ⟨w0.heap.size, 0, none⟩), .pointer (some ⟨w0.heap.size + 1, 0, none⟩), .pointer (some ⟨w0.heap.size + 1 + 1, 0, none⟩), c5, c6, c7, c8, c9, x10, x11, x12, x13, x14, x15, x16, x17, c18, c19, c20, c21, c22, c23, c24, c25, c26, c27, c28, c29, c30, c31, c32, c33, c34, c35, c36, c37, c38, c39], defers := [] } W := by
  conv => arg 2; whnf
  refine wp_region_inv (by kernel_rfl) (by kernel_rfl) (AdPI w0 na nb Pa Pb a b r ca cb c0 c1 c5 c6 c7 c8 c9 c18 c19 c20 c21 c22 c23 c24 c25 c26 c27 c28 c29 c30 c31 c32 c33 c34 c35 c36 c37 c38 c39) ?_ ?_ ?_
  · exact ⟨_, _, _, _, _, _, _, _, rfl, fun h => absurd h l0, fun h => absurd h l0, fun h => absurd h l0, fun h => absurd h l0, fun h => absurd h l0, fun h => absurd h l0, fun _ h => absurd h l0, fun _ h => absurd h l0, fun h => absurd h l0, bdr hb0, fun _ => Aa.drew, fun _ => Ab.drew, fun _ => Ar.drew, fun h => absurd h l0, fun h => absurd h l0, fun h => absurd h l0, fun h => absurd h l0, fun h => absurd h l0, fun h => absurd h l0, fun h => absurd h l0, fun h => absurd h l0⟩
  · intro i o listed A w hi ho hd hn hI
    unfold AdPI at hI
    obtain ⟨s10, hI⟩ := hI
    obtain ⟨s11, hI⟩ := hI
    obtain ⟨s12, hI⟩ := hI
    obtain ⟨s13, hI⟩ := hI
    obtain ⟨s14, hI⟩ := hI
    obtain ⟨s15, hI⟩ := hI
    obtain ⟨s16, hI⟩ := hI
    obtain ⟨s17, hI⟩ := hI
    obtain ⟨rfl, hI⟩ := hI
    obtain ⟨F0, hI⟩ := hI
    obtain ⟨F1, hI⟩ := hI
    obtain ⟨F2, hI⟩ := hI
    obtain ⟨F3, hI⟩ := hI
    obtain ⟨F4, hI⟩ := hI
    obtain ⟨F5, hI⟩ := hI
    obtain ⟨F6, hI⟩ := hI
    obtain ⟨F7, hI⟩ := hI
    obtain ⟨F8, hI⟩ := hI
    obtain ⟨F9, hI⟩ := hI
    obtain ⟨F10, hI⟩ := hI
    obtain ⟨F11, hI⟩ := hI
    obtain ⟨F12, hI⟩ := hI
    obtain ⟨F13, hI⟩ := hI
    obtain ⟨F14, hI⟩ := hI
    obtain ⟨F15, hI⟩ := hI
    obtain ⟨F16, hI⟩ := hI
    obtain ⟨F17, hI⟩ := hI
    obtain ⟨F18, hI⟩ := hI
    obtain ⟨F19, hI⟩ := hI
    have F20 := hI; clear hI
    have hi' : i < 9 := hi
    clear hi
    rcases (by omega : i = 0 ∨ i = 1 ∨ i = 2 ∨ i = 3 ∨ i = 4 ∨ i = 5 ∨ i = 6 ∨ i = 7 ∨ i = 8) with rfl | rfl | rfl | rfl | rfl | rfl | rfl | rfl | rfl
    · simp only [List.getElem?_toArray, List.getElem?_cons_zero, Option.some.injEq] at ho
      subst ho
      have hJ := ln hn F13
      refine wpOp_step rfl (fun K hK => ?_)
      go_simp
      refine hK _ _ ?_
      exact ⟨_, _, _, _, _, _, _, _, rfl, fun _ => rfl, fun h => F1 (ls (by decide) h), fun h => F2 (ls (by decide) h), fun h => F3 (ls (by decide) h), fun h => F4 (ls (by decide) h), fun h => F5 (ls (by decide) h), fun h0 h => (F6 (lsf (by decide) h0) (ls (by decide) h)), fun h0 h => (F7 (lsf (by decide) h0) (ls (by decide) h)), fun h => lc hn (F13 (ls (by decide) h)), F9, fun h0 => (F10 (lsf (by decide) h0)), fun h0 => (F11 (lsf (by decide) h0)), fun h0 => (F12 (lsf (by decide) h0)), fun _ => lself hn, fun h => la (F14 (ls (by decide) h)), fun h => la (F15 (ls (by decide) h)), fun h => la (F16 (ls (by decide) h)), fun h => la (F17 (ls (by decide) h)), fun h => la (F18 (ls (by decide) h)), fun h => la (F19 (ls (by decide) h)), fun h => la (F20 (ls (by decide) h))⟩
    · simp only [List.getElem?_toArray, List.getElem?_cons_zero, List.getElem?_cons_succ, Option.some.injEq] at ho
      subst ho
      have hJ := ln hn F14
      obtain rfl := F0 (hd ⟨0, .data⟩ (by simp) rfl)
      have O'0 := F10 hJ; obtain ⟨_, _, _, _⟩ := id O'0
      have O'1 := F11 hJ; obtain ⟨_, _, _, _⟩ := id O'1
      have O'2 := F12 hJ; obtain ⟨_, _, _, _⟩ := id O'2
      refine wpOp_step rfl (fun K hK => ?_)
      go_simp
      refine hK _ _ ?_
      exact ⟨_, _, _, _, _, _, _, _, rfl, fun h => F0 (ls (by decide) h), fun _ => rfl, fun h => F2 (ls (by decide) h), fun h => F3 (ls (by decide) h), fun h => F4 (ls (by decide) h), fun h => F5 (ls (by decide) h), fun h0 h => (F6 (lsf (by decide) h0) (ls (by decide) h)), fun h0 h => (F7 (lsf (by decide) h0) (ls (by decide) h)), fun h => lc hn (F14 (ls (by decide) h)), F9, fun h0 => (F10 (lsf (by decide) h0)), fun h0 => (F11 (lsf (by decide) h0)), fun h0 => (F12 (lsf (by decide) h0)), fun h => la (F13 (ls (by decide) h)), fun _ => lself hn, fun h => la (F15 (ls (by decide) h)), fun h => la (F16 (ls (by decide) h)), fun h => la (F17 (ls (by decide) h)), fun h => la (F18 (ls (by decide) h)), fun h => la (F19 (ls (by decide) h)), fun h => la (F20 (ls (by decide) h))⟩
    · simp only [List.getElem?_toArray, List.getElem?_cons_zero, List.getElem?_cons_succ, Option.some.injEq] at ho
      subst ho
      have hJ := ln hn F15
      refine wpOp_step rfl (fun K hK => ?_)
      go_simp
      refine hK _ _ ?_
      exact ⟨_, _, _, _, _, _, _, _, rfl, fun h => F0 (ls (by decide) h), fun h => F1 (ls (by decide) h), fun _ => rfl, fun h => F3 (ls (by decide) h), fun h => F4 (ls (by decide) h), fun h => F5 (ls (by decide) h), fun h0 h => (F6 (lsf (by decide) h0) (ls (by decide) h)), fun h0 h => (F7 (lsf (by decide) h0) (ls (by decide) h)), fun h => lc hn (F15 (ls (by decide) h)), F9, fun h0 => (F10 (lsf (by decide) h0)), fun h0 => (F11 (lsf (by decide) h0)), fun h0 => (F12 (lsf (by decide) h0)), fun h => la (F13 (ls (by decide) h)), fun h => la (F14 (ls (by decide) h)), fun _ => lself hn, fun h => la (F16 (ls (by decide) h)), fun h => la (F17 (ls (by decide) h)), fun h => la (F18 (ls (by decide) h)), fun h => la (F19 (ls (by decide) h)), fun h => la (F20 (ls (by decide) h))⟩
    · simp only [List.getElem?_toArray, List.getElem?_cons_zero, List.getElem?_cons_succ, Option.some.injEq] at ho
      subst ho
      have hJ := ln hn F16
      obtain rfl := F2 (hd ⟨2, .data⟩ (by simp) rfl)
      have O'0 := F10 hJ; obtain ⟨_, _, _, _⟩ := id O'0
      have O'1 := F11 hJ; obtain ⟨_, _, _, _⟩ := id O'1
      have O'2 := F12 hJ; obtain ⟨_, _, _, _⟩ := id O'2
      refine wpOp_step rfl (fun K hK => ?_)
      go_simp
      refine hK _ _ ?_
      exact ⟨_, _, _, _, _, _, _, _, rfl, fun h => F0 (ls (by decide) h), fun h => F1 (ls (by decide) h), fun h => F2 (ls (by decide) h), fun _ => rfl, fun h => F4 (ls (by decide) h), fun h => F5 (ls (by decide) h), fun h0 h => (F6 (lsf (by decide) h0) (ls (by decide) h)), fun h0 h => (F7 (lsf (by decide) h0) (ls (by decide) h)), fun h => lc hn (F16 (ls (by decide) h)), F9, fun h0 => (F10 (lsf (by decide) h0)), fun h0 => (F11 (lsf (by decide) h0)), fun h0 => (F12 (lsf (by decide) h0)), fun h => la (F13 (ls (by decide) h)), fun h => la (F14 (ls (by decide) h)), fun h => la (F15 (ls (by decide) h)), fun _ => lself hn, fun h => la (F17 (ls (by decide) h)), fun h => la (F18 (ls (by decide) h)), fun h => la (F19 (ls (by decide) h)), fun h => la (F20 (ls (by decide) h))⟩
    · simp only [List.getElem?_toArray, List.getElem?_cons_zero, List.getElem?_cons_succ, Option.some.injEq] at ho
      subst ho
      have hJ := ln hn F17
      refine wpOp_step rfl (fun K hK => ?_)
      go_simp
      refine hK _ _ ?_
      exact ⟨_, _, _, _, _, _, _, _, rfl, fun h => F0 (ls (by decide) h), fun h => F1 (ls (by decide) h), fun h => F2 (ls (by decide) h), fun h => F3 (ls (by decide) h), fun _ => rfl, fun h => F5 (ls (by decide) h), fun h0 h => (F6 (lsf (by decide) h0) (ls (by decide) h)), fun h0 h => (F7 (lsf (by decide) h0) (ls (by decide) h)), fun h => lc hn (F17 (ls (by decide) h)), F9, fun h0 => (F10 (lsf (by decide) h0)), fun h0 => (F11 (lsf (by decide) h0)), fun h0 => (F12 (lsf (by decide) h0)), fun h => la (F13 (ls (by decide) h)), fun h => la (F14 (ls (by decide) h)), fun h => la (F15 (ls (by decide) h)), fun h => la (F16 (ls (by decide) h)), fun _ => lself hn, fun h => la (F18 (ls (by decide) h)), fun h => la (F19 (ls (by decide) h)), fun h => la (F20 (ls (by decide) h))⟩
    · simp only [List.getElem?_toArray, List.getElem?_cons_zero, List.getElem?_cons_succ, Option.some.injEq] at ho
      subst ho
      have hJ := ln hn F18
      obtain rfl := F4 (hd ⟨4, .data⟩ (by simp) rfl)
      have O'0 := F10 hJ; obtain ⟨_, _, _, _⟩ := id O'0
      have O'1 := F11 hJ; obtain ⟨_, _, _, _⟩ := id O'1
      have O'2 := F12 hJ; obtain ⟨_, _, _, _⟩ := id O'2
      refine wpOp_step rfl (fun K hK => ?_)
      go_simp
      refine hK _ _ ?_
      exact ⟨_, _, _, _, _, _, _, _, rfl, fun h => F0 (ls (by decide) h), fun h => F1 (ls (by decide) h), fun h => F2 (ls (by decide) h), fun h => F3 (ls (by decide) h), fun h => F4 (ls (by decide) h), fun _ => rfl, fun h0 h => (F6 (lsf (by decide) h0) (ls (by decide) h)), fun h0 h => (F7 (lsf (by decide) h0) (ls (by decide) h)), fun h => lc hn (F18 (ls (by decide) h)), F9, fun h0 => (F10 (lsf (by decide) h0)), fun h0 => (F11 (lsf (by decide) h0)), fun h0 => (F12 (lsf (by decide) h0)), fun h => la (F13 (ls (by decide) h)), fun h => la (F14 (ls (by decide) h)), fun h => la (F15 (ls (by decide) h)), fun h => la (F16 (ls (by decide) h)), fun h => la (F17 (ls (by decide) h)), fun _ => lself hn, fun h => la (F19 (ls (by decide) h)), fun h => la (F20 (ls (by decide) h))⟩
    · simp only [List.getElem?_toArray, List.getElem?_cons_zero, List.getElem?_cons_succ, Option.some.injEq] at ho
      subst ho
      have hJ := ln hn F19
      obtain rfl := F3 (hd ⟨3, .data⟩ (by simp) rfl)
      obtain rfl := F5 (hd ⟨5, .data⟩ (by simp) rfl)
      refine wpOp_step rfl (fun K hK => ?_)
      go_simp
      go_at_call 74; refine (HG.out w Pa Pb ca cb (Ha.out.call F9) (Hb.out.call F9) hla hlb).mono ?_; rintro e w' ⟨v, rfl, hof, hb⟩
      refine hK _ _ ?_
      exact ⟨_, _, _, _, _, _, _, _, rfl, fun h => F0 (ls (by decide) h), fun h => F1 (ls (by decide) h), fun h => F2 (ls (by decide) h), fun h => F3 (ls (by decide) h), fun h => F4 (ls (by decide) h), fun h => F5 (ls (by decide) h), fun _ _ => hof, fun h0 h => (F7 (lsf (by decide) h0) (ls (by decide) h)).call hb, fun h => lc hn (F19 (ls (by decide) h)), bt F9 hb, fun h0 => (F10 (lsf (by decide) h0)).call hb, fun h0 => (F11 (lsf (by decide) h0)).call hb, fun h0 => (F12 (lsf (by decide) h0)).call hb, fun h => la (F13 (ls (by decide) h)), fun h => la (F14 (ls (by decide) h)), fun h => la (F15 (ls (by decide) h)), fun h => la (F16 (ls (by decide) h)), fun h => la (F17 (ls (by decide) h)), fun h => la (F18 (ls (by decide) h)), fun _ => lself hn, fun h => la (F20 (ls (by decide) h))⟩
    · simp only [List.getElem?_toArray, List.getElem?_cons_zero, List.getElem?_cons_succ, Option.some.injEq] at ho
      subst ho
      have hJ := ln hn F20
      obtain rfl := F1 (hd ⟨1, .data⟩ (by simp) rfl)
      obtain ⟨A9, c9, rfl, hrd, hl9, hc9⟩ := F6 hJ (hd ⟨6, .data⟩ (by simp) rfl)
      refine wpOp_step rfl (fun K hK => ?_)
      go_simp
      refine hK _ _ ?_
      exact ⟨_, _, _, _, _, _, _, _, rfl, fun h => F0 (ls (by decide) h), fun h => F1 (ls (by decide) h), fun h => F2 (ls (by decide) h), fun h => F3 (ls (by decide) h), fun h => F4 (ls (by decide) h), fun h => F5 (ls (by decide) h), fun h0 h => (F6 (lsf (by decide) h0) (ls (by decide) h)), fun _ _ => ⟨A9, c9, rfl, hrd, hl9, hc9⟩, fun h => lc hn (F20 (ls (by decide) h)), F9, fun h0 => (F10 (lsf (by decide) h0)), fun h0 => (F11 (lsf (by decide) h0)), fun h0 => (F12 (lsf (by decide) h0)), fun h => la (F13 (ls (by decide) h)), fun h => la (F14 (ls (by decide) h)), fun h => la (F15 (ls (by decide) h)), fun h => la (F16 (ls (by decide) h)), fun h => la (F17 (ls (by decide) h)), fun h => la (F18 (ls (by decide) h)), fun h => la (F19 (ls (by decide) h)), fun _ => lself hn⟩
    · simp only [List.getElem?_toArray, List.getElem?_cons_zero, List.getElem?_cons_succ, Option.some.injEq] at ho
      subst ho
      have hJ := lf hn
      obtain ⟨A9, c9, rfl, hrd, hl9, hc9⟩ := F7 hJ (hd ⟨7, .data⟩ (by simp) rfl)
      have O'0 := F10 hJ; obtain ⟨_, _, _, _⟩ := id O'0
      have O'1 := F11 hJ; obtain ⟨_, _, _, _⟩ := id O'1
      have O'2 := F12 hJ; obtain ⟨_, _, _, _⟩ := id O'2
      have K9 := O'2
      refine wpOp_step rfl (fun K hK => ?_)
      go_simp
      refine hK _ _ ?_
      exact ⟨_, _, _, _, _, _, _, _, rfl, fun h => F0 (ls (by decide) h), fun h => F1 (ls (by decide) h), fun h => F2 (ls (by decide) h), fun h => F3 (ls (by decide) h), fun h => F4 (ls (by decide) h), fun h => F5 (ls (by decide) h), fun h => _root_.Go.lx hn h, fun h => _root_.Go.lx hn h, fun _ => ⟨_, _, K9.store _ _, rd_store hrd K9 _ _, hl9, hc9⟩, (bs (bs F9 (by first | (simp; done) | (simp; omega))) (by first | (simp; done) | (simp; omega))), fun h => _root_.Go.lx hn h, fun h => _root_.Go.lx hn h, fun h => _root_.Go.lx hn h, fun _ => la (hd ⟨0, .phase⟩ (by simp) rfl), fun _ => la (hd ⟨1, .phase⟩ (by simp) rfl), fun _ => la (hd ⟨2, .phase⟩ (by simp) rfl), fun _ => la (hd ⟨3, .phase⟩ (by simp) rfl), fun _ => la (hd ⟨4, .phase⟩ (by simp) rfl), fun _ => la (hd ⟨5, .phase⟩ (by simp) rfl), fun _ => la (hd ⟨6, .phase⟩ (by simp) rfl), fun _ => la (hd ⟨7, .phase⟩ (by simp) rfl)⟩
  · intro listed A w hall hI
    unfold AdPI at hI
    obtain ⟨s10, hI⟩ := hI
    obtain ⟨s11, hI⟩ := hI
    obtain ⟨s12, hI⟩ := hI
    obtain ⟨s13, hI⟩ := hI
    obtain ⟨s14, hI⟩ := hI
    obtain ⟨s15, hI⟩ := hI
    obtain ⟨s16, hI⟩ := hI
    obtain ⟨s17, hI⟩ := hI
    obtain ⟨rfl, hI⟩ := hI
    obtain ⟨F0, hI⟩ := hI
    obtain ⟨F1, hI⟩ := hI
    obtain ⟨F2, hI⟩ := hI
    obtain ⟨F3, hI⟩ := hI
    obtain ⟨F4, hI⟩ := hI
    obtain ⟨F5, hI⟩ := hI
    obtain ⟨F6, hI⟩ := hI
    obtain ⟨F7, hI⟩ := hI
    obtain ⟨F8, hI⟩ := hI
    obtain ⟨F9, hI⟩ := hI
    obtain ⟨F10, hI⟩ := hI
    obtain ⟨F11, hI⟩ := hI
    obtain ⟨F12, hI⟩ := hI
    obtain ⟨F13, hI⟩ := hI
    obtain ⟨F14, hI⟩ := hI
    obtain ⟨F15, hI⟩ := hI
    obtain ⟨F16, hI⟩ := hI
    obtain ⟨F17, hI⟩ := hI
    obtain ⟨F18, hI⟩ := hI
    obtain ⟨F19, hI⟩ := hI
    have F20 := hI; clear hI
    obtain rfl := F0 (hall 0 (by decide))
    obtain rfl := F1 (hall 1 (by decide))
    obtain rfl := F2 (hall 2 (by decide))
    obtain rfl := F3 (hall 3 (by decide))
    obtain rfl := F4 (hall 4 (by decide))
    obtain rfl := F5 (hall 5 (by decide))
    have PJ := F8 (hall 8 (by decide))
    have HB := F9
    clear hall F6 F7 F8 F9 F10 F11 F12 F13 F14 F15 F16 F17 F18 F19 F20
    try dsimp only

    exact hQ _ _ _ PJ HB
def AdMI (w0 : World) (na nb : Bool) (Pa Pb : Option Addr) (a b r : List Int) (ca cb : Nat) (c0 c1 c5 c6 c7 c8 c9 c10 c11 c12 c13 c14 c15 c16 c17 c18 c19 c20 c21 c22 c23 c32 c33 c34 c35 c36 c37 c38 c39 : Value) (listed : Array Bool) (A : Act) (w : World) : Prop := ∃ (s24 s25 s26 s27 s28 s29 s30 s31 : Value), A = { tmps := #[c0, c1, .pointer (some ⟨w0.heap.size, 0, none⟩), .pointer (some ⟨w0.heap.size + 1, 0, none⟩), .pointer (some ⟨w0.heap.size + 1 + 1, 0, none⟩), c5, c6, c7, c8, c9, c10, c11, c12, c13, c14, c15, c16, c17, c18, c19, c20, c21, c22, c23, s24, s25, s26, s27, s28, s29, s30, s31, c32, c33, c34, c35, c36, c37, c38, c39], defers := [] } ∧
  (listed.getD 0 false = true → s24 = .pointer (some ⟨w0.heap.size, 0, none⟩)) ∧
  (listed.getD 1 false = true → s25 = .bool na) ∧
  (listed.getD 2 false = true → s26 = .pointer (some ⟨w0.heap.size, 1, none⟩)) ∧
  (listed.getD 3 false = true → s27 = .slice Pa a.length ca) ∧
  (listed.getD 4 false = true → s28 = .pointer (some ⟨w0.heap.size + 1, 1, none⟩)) ∧
  (listed.getD 5 false = true → s29 = .slice Pb b.length cb) ∧
  (listed.getD 8 false = false → listed.getD 6 false = true → RdF r w s30) ∧
  (listed.getD 8 false = false → listed.getD 7 false = true → OfF na r w s31) ∧
  (listed.getD 8 false = true → ∃ A9 c9, Own w (w0.heap.size + 1 + 1) (.bool na) (.slice A9 r.length c9) ∧ Rd w A9 r ∧ r.length ≤ c9 ∧ c9 ≤ 9223372036854775807) ∧
  Below w0.heap.size w0 w ∧
  (listed.getD 8 false = false → Own w (w0.heap.size) (.bool na) (.slice Pa a.length ca)) ∧
  (listed.getD 8 false = false → Own w (w0.heap.size + 1) (.bool nb) (.slice Pb b.length cb)) ∧
  (listed.getD 8 false = false → Own w (w0.heap.size + 1 + 1) (.bool false) (.slice none 0 0)) ∧
  (listed.getD 8 false = true → listed.getD 0 false = true) ∧
  (listed.getD 8 false = true → listed.getD 1 false = true) ∧
  (listed.getD 8 false = true → listed.getD 2 false = true) ∧
  (listed.getD 8 false = true → listed.getD 3 false = true) ∧
  (listed.getD 8 false = true → listed.getD 4 false = true) ∧
  (listed.getD 8 false = true → listed.getD 5 false = true) ∧
  (listed.getD 8 false = true → listed.getD 6 false = true) ∧
  (listed.getD 8 false = true → listed.getD 7 false = true)

set_option maxRecDepth 100000 in
set_option maxHeartbeats 16000000 in
theorem AdM_region (na nb : Bool) (Pa Pb : Option Addr) (a b r : List Int) (ca cb : Nat) (x24 x25 x26 x27 x28 x29 x30 x31 : Value) (c0 c1 c5 c6 c7 c8 c9 c10 c11 c12 c13 c14 c15 c16 c17 c18 c19 c20 c21 c22 c23 c32 c33 c34 c35 c36 c37 c38 c39 : Value) (w0 W : World) (Q : Exit → Act → World → Prop) (hb0 : Below w0.heap.size w0 W) (Aa : Own W w0.heap.size (.bool na) (.slice Pa a.length ca)) (Ab : Own W (w0.heap.size + 1) (.bool nb) (.slice Pb b.length cb)) (Ar : Own W (w0.heap.size + 1 + 1) (.bool false) (.slice none 0 0)) (Ha : Hid (Rd w0 Pa a)) (Hb : Hid (Rd w0 Pb b)) (hla : a.length ≤ ca) (hlb : b.length ≤ cb) (HG : Hid (BinG 76 a b r))
    (hQ : ∀ w y30 y31, (∃ A9 c9, Own w (w0.heap.size + 1 + 1) (.bool na) (.slice A9 r.length c9) ∧ Rd w A9 r ∧ r.length ≤ c9 ∧ c9 ≤ 9223372036854775807) → Below w0.heap.size w0 w → Q .normal { tmps := #[c0, c1, .pointer (some ⟨w0.heap.size, 0, none⟩), .pointer (some ⟨w0.heap.size + 1, 0, none⟩), .pointer (some ⟨w0.heap.size + 1 + 1, 0, none⟩), c5, c6, c7, c8, c9, c10, c11, c12, c13, c14, c15, c16, c17, c18, c19, c20, c21, c22, c23, .pointer (some ⟨w0.heap.size, 0, none⟩), .bool na, .pointer (some ⟨w0.heap.size, 1, none⟩), .slice Pa a.length ca, .pointer (some ⟨w0.heap.size + 1, 1, none⟩), .slice Pb b.length cb, y30, y31, c32, c33, c34, c35, c36, c37, c38, c39], defers := [] } w) :
    Code.wp Tryd.prog ((Tryd.f51.body.bind (regionOf 4)).getD .skip) Q { tmps := #[c0, c1, .pointer (some ⟨w0.heap.size, 0, none⟩), .pointer (some ⟨w0.heap.size + 1, 0, none⟩), .pointer (some ⟨w0.heap.size + 1 + 1, 0, none⟩), c5, c6, c7, c8, c9, c10, c11, c12, c13, c14, c15, c16, c17, c18, c19, c20, c21, c22, c23, x24, x25, x26, x27, x28, x29, x30, x31, c32, c33, c34, c35, c36, c37, c38, c39], defers := [] } W := by
  conv => arg 2; whnf
  refine wp_region_inv (by kernel_rfl) (by kernel_rfl) (AdMI w0 na nb Pa Pb a b r ca cb c0 c1 c5 c6 c7 c8 c9 c10 c11 c12 c13 c14 c15 c16 c17 c18 c19 c20 c21 c22 c23 c32 c33 c34 c35 c36 c37 c38 c39) ?_ ?_ ?_
  · exact ⟨_, _, _, _, _, _, _, _, rfl, fun h => absurd h l0, fun h => absurd h l0, fun h => absurd h l0, fun h => absurd h l0, fun h => absurd h l0, fun h => absurd h l0, fun _ h => absurd h l0, fun _ h => absurd h l0, fun h => absurd h l0, bdr hb0, fun _ => Aa.drew, fun _ => Ab.drew, fun _ => Ar.drew, fun h => absurd h l0, fun h => absurd h l0, fun h => absurd h l0, fun h => absurd h l0, fun h => absurd h l0, fun h => absurd h l0, fun h => absurd h l0, fun h => absurd h l0⟩
  · intro i o listed A w hi ho hd hn hI
    unfold AdMI at hI
    obtain ⟨s24, hI⟩ := hI
    obtain ⟨s25, hI⟩ := hI
    obtain ⟨s26, hI⟩ := hI
    obtain ⟨s27, hI⟩ := hI
    obtain ⟨s28, hI⟩ := hI
    obtain ⟨s29, hI⟩ := hI
    obtain ⟨s30, hI⟩ := hI
    obtain ⟨s31, hI⟩ := hI
    obtain ⟨rfl, hI⟩ := hI
    obtain ⟨F0, hI⟩ := hI
    obtain ⟨F1, hI⟩ := hI
    obtain ⟨F2, hI⟩ := hI
    obtain ⟨F3, hI⟩ := hI
    obtain ⟨F4, hI⟩ := hI
    obtain ⟨F5, hI⟩ := hI
    obtain ⟨F6, hI⟩ := hI
    obtain ⟨F7, hI⟩ := hI
    obtain ⟨F8, hI⟩ := hI
    obtain ⟨F9, hI⟩ := hI
    obtain ⟨F10, hI⟩ := hI
    obtain ⟨F11, hI⟩ := hI
    obtain ⟨F12, hI⟩ := hI
    obtain ⟨F13, hI⟩ := hI
    obtain ⟨F14, hI⟩ := hI
    obtain ⟨F15, hI⟩ := hI
    obtain ⟨F16, hI⟩ := hI
    obtain ⟨F17, hI⟩ := hI
    obtain ⟨F18, hI⟩ := hI
    obtain ⟨F19, hI⟩ := hI
    have F20 := hI; clear hI
    have hi' : i < 9 := hi
    clear hi
    rcases (by omega : i = 0 ∨ i = 1 ∨ i = 2 ∨ i = 3 ∨ i = 4 ∨ i = 5 ∨ i = 6 ∨ i = 7 ∨ i = 8) with rfl | rfl | rfl | rfl | rfl | rfl | rfl | rfl | rfl
    · simp only [List.getElem?_toArray, List.getElem?_cons_zero, Option.some.injEq] at ho
      subst ho
      have hJ := ln hn F13
      refine wpOp_step rfl (fun K hK => ?_)
      go_simp
      refine hK _ _ ?_
      exact ⟨_, _, _, _, _, _, _, _, rfl, fun _ => rfl, fun h => F1 (ls (by decide) h), fun h => F2 (ls (by decide) h), fun h => F3 (ls (by decide) h), fun h => F4 (ls (by decide) h), fun h => F5 (ls (by decide) h), fun h0 h => (F6 (lsf (by decide) h0) (ls (by decide) h)), fun h0 h => (F7 (lsf (by decide) h0) (ls (by decide) h)), fun h => lc hn (F13 (ls (by decide) h)), F9, fun h0 => (F10 (lsf (by decide) h0)), fun h0 => (F11 (lsf (by decide) h0)), fun h0 => (F12 (lsf (by decide) h0)), fun _ => lself hn, fun h => la (F14 (ls (by decide) h)), fun h => la (F15 (ls (by decide) h)), fun h => la (F16 (ls (by decide) h)), fun h => la (F17 (ls (by decide) h)), fun h => la (F18 (ls (by decide) h)), fun h => la (F19 (ls (by decide) h)), fun h => la (F20 (ls (by decide) h))⟩
    · simp only [List.getElem?_toArray, List.getElem?_cons_zero, List.getElem?_cons_succ, Option.some.injEq] at ho
      subst ho
      have hJ := ln hn F14
      obtain rfl := F0 (hd ⟨0, .data⟩ (by simp) rfl)
      have O'0 := F10 hJ; obtain ⟨_, _, _, _⟩ := id O'0
      have O'1 := F11 hJ; obtain ⟨_, _, _, _⟩ := id O'1
      have O'2 := F12 hJ; obtain ⟨_, _, _, _⟩ := id O'2
      refine wpOp_step rfl (fun K hK => ?_)
      go_simp
      refine hK _ _ ?_
      exact ⟨_, _, _, _, _, _, _, _, rfl, fun h => F0 (ls (by decide) h), fun _ => rfl, fun h => F2 (ls (by decide) h), fun h => F3 (ls (by decide) h), fun h => F4 (ls (by decide) h), fun h => F5 (ls (by decide) h), fun h0 h => (F6 (lsf (by decide) h0) (ls (by decide) h)), fun h0 h => (F7 (lsf (by decide) h0) (ls (by decide) h)), fun h => lc hn (F14 (ls (by decide) h)), F9, fun h0 => (F10 (lsf (by decide) h0)), fun h0 => (F11 (lsf (by decide) h0)), fun h0 => (F12 (lsf (by decide) h0)), fun h => la (F13 (ls (by decide) h)), fun _ => lself hn, fun h => la (F15 (ls (by decide) h)), fun h => la (F16 (ls (by decide) h)), fun h => la (F17 (ls (by decide) h)), fun h => la (F18 (ls (by decide) h)), fun h => la (F19 (ls (by decide) h)), fun h => la (F20 (ls (by decide) h))⟩
    · simp only [List.getElem?_toArray, List.getElem?_cons_zero, List.getElem?_cons_succ, Option.some.injEq] at ho
      subst ho
      have hJ := ln hn F15
      refine wpOp_step rfl (fun K hK => ?_)
      go_simp
      refine hK _ _ ?_
      exact ⟨_, _, _, _, _, _, _, _, rfl, fun h => F0 (ls (by decide) h), fun h => F1 (ls (by decide) h), fun _ => rfl, fun h => F3 (ls (by decide) h), fun h => F4 (ls (by decide) h), fun h => F5 (ls (by decide) h), fun h0 h => (F6 (lsf (by decide) h0) (ls (by decide) h)), fun h0 h => (F7 (lsf (by decide) h0) (ls (by decide) h)), fun h => lc hn (F15 (ls (by decide) h)), F9, fun h0 => (F10 (lsf (by decide) h0)), fun h0 => (F11 (lsf (by decide) h0)), fun h0 => (F12 (lsf (by decide) h0)), fun h => la (F13 (ls (by decide) h)), fun h => la (F14 (ls (by decide) h)), fun _ => lself hn, fun h => la (F16 (ls (by decide) h)), fun h => la (F17 (ls (by decide) h)), fun h => la (F18 (ls (by decide) h)), fun h => la (F19 (ls (by decide) h)), fun h => la (F20 (ls (by decide) h))⟩
    · simp only [List.getElem?_toArray, List.getElem?_cons_zero, List.getElem?_cons_succ, Option.some.injEq] at ho
      subst ho
      have hJ := ln hn F16
      obtain rfl := F2 (hd ⟨2, .data⟩ (by simp) rfl)
      have O'0 := F10 hJ; obtain ⟨_, _, _, _⟩ := id O'0
      have O'1 := F11 hJ; obtain ⟨_, _, _, _⟩ := id O'1
      have O'2 := F12 hJ; obtain ⟨_, _, _, _⟩ := id O'2
      refine wpOp_step rfl (fun K hK => ?_)
      go_simp
      refine hK _ _ ?_
      exact ⟨_, _, _, _, _, _, _, _, rfl, fun h => F0 (ls (by decide) h), fun h => F1 (ls (by decide) h), fun h => F2 (ls (by decide) h), fun _ => rfl, fun h => F4 (ls (by decide) h), fun h => F5 (ls (by decide) h), fun h0 h => (F6 (lsf (by decide) h0) (ls (by decide) h)), fun h0 h => (F7 (lsf (by decide) h0) (ls (by decide) h)), fun h => lc hn (F16 (ls (by decide) h)), F9, fun h0 => (F10 (lsf (by decide) h0)), fun h0 => (F11 (lsf (by decide) h0)), fun h0 => (F12 (lsf (by decide) h0)), fun h => la (F13 (ls (by decide) h)), fun h => la (F14 (ls (by decide) h)), fun h => la (F15 (ls (by decide) h)), fun _ => lself hn, fun h => la (F17 (ls (by decide) h)), fun h => la (F18 (ls (by decide) h)), fun h => la (F19 (ls (by decide) h)), fun h => la (F20 (ls (by decide) h))⟩
    · simp only [List.getElem?_toArray, List.getElem?_cons_zero, List.getElem?_cons_succ, Option.some.injEq] at ho
      subst ho
      have hJ := ln hn F17
      refine wpOp_step rfl (fun K hK => ?_)
      go_simp
      refine hK _ _ ?_
      exact ⟨_, _, _, _, _, _, _, _, rfl, fun h => F0 (ls (by decide) h), fun h => F1 (ls (by decide) h), fun h => F2 (ls (by decide) h), fun h => F3 (ls (by decide) h), fun _ => rfl, fun h => F5 (ls (by decide) h), fun h0 h => (F6 (lsf (by decide) h0) (ls (by decide) h)), fun h0 h => (F7 (lsf (by decide) h0) (ls (by decide) h)), fun h => lc hn (F17 (ls (by decide) h)), F9, fun h0 => (F10 (lsf (by decide) h0)), fun h0 => (F11 (lsf (by decide) h0)), fun h0 => (F12 (lsf (by decide) h0)), fun h => la (F13 (ls (by decide) h)), fun h => la (F14 (ls (by decide) h)), fun h => la (F15 (ls (by decide) h)), fun h => la (F16 (ls (by decide) h)), fun _ => lself hn, fun h => la (F18 (ls (by decide) h)), fun h => la (F19 (ls (by decide) h)), fun h => la (F20 (ls (by decide) h))⟩
    · simp only [List.getElem?_toArray, List.getElem?_cons_zero, List.getElem?_cons_succ, Option.some.injEq] at ho
      subst ho
      have hJ := ln hn F18
      obtain rfl := F4 (hd ⟨4, .data⟩ (by simp) rfl)
      have O'0 := F10 hJ; obtain ⟨_, _, _, _⟩ := id O'0
      have O'1 := F11 hJ; obtain ⟨_, _, _, _⟩ := id O'1
      have O'2 := F12 hJ; obtain ⟨_, _, _, _⟩ := id O'2
      refine wpOp_step rfl (fun K hK => ?_)
      go_simp
      refine hK _ _ ?_
      exact ⟨_, _, _, _, _, _, _, _, rfl, fun h => F0 (ls (by decide) h), fun h => F1 (ls (by decide) h), fun h => F2 (ls (by decide) h), fun h => F3 (ls (by decide) h), fun h => F4 (ls (by decide) h), fun _ => rfl, fun h0 h => (F6 (lsf (by decide) h0) (ls (by decide) h)), fun h0 h => (F7 (lsf (by decide) h0) (ls (by decide) h)), fun h => lc hn (F18 (ls (by decide) h)), F9, fun h0 => (F10 (lsf (by decide) h0)), fun h0 => (F11 (lsf (by decide) h0)), fun h0 => (F12 (lsf (by decide) h0)), fun h => la (F13 (ls (by decide) h)), fun h => la (F14 (ls (by decide) h)), fun h => la (F15 (ls (by decide) h)), fun h => la (F16 (ls (by decide) h)), fun h => la (F17 (ls (by decide) h)), fun _ => lself hn, fun h => la (F19 (ls (by decide) h)), fun h => la (F20 (ls (by decide) h))⟩
    · simp only [List.getElem?_toArray, List.getElem?_cons_zero, List.getElem?_cons_succ, Option.some.injEq] at ho
      subst ho
      have hJ := ln hn F19
      obtain rfl := F3 (hd ⟨3, .data⟩ (by simp) rfl)
      obtain rfl := F5 (hd ⟨5, .data⟩ (by simp) rfl)
      refine wpOp_step rfl (fun K hK => ?_)
      go_simp
      go_at_call 76; refine (HG.out w Pa Pb ca cb (Ha.out.call F9) (Hb.out.call F9) hla hlb).mono ?_; rintro e w' ⟨v, rfl, hof, hb⟩
      refine hK _ _ ?_
      exact ⟨_, _, _, _, _, _, _, _, rfl, fun h => F0 (ls (by decide) h), fun h => F1 (ls (by decide) h), fun h => F2 (ls (by decide) h), fun h => F3 (ls (by decide) h), fun h => F4 (ls (by decide) h), fun h => F5 (ls (by decide) h), fun _ _ => hof, fun h0 h => (F7 (lsf (by decide) h0) (ls (by decide) h)).call hb, fun h => lc hn (F19 (ls (by decide) h)), bt F9 hb, fun h0 => (F10 (lsf (by decide) h0)).call hb, fun h0 => (F11 (lsf (by decide) h0)).call hb, fun h0 => (F12 (lsf (by decide) h0)).call hb, fun h => la (F13 (ls (by decide) h)), fun h => la (F14 (ls (by decide) h)), fun h => la (F15 (ls (by decide) h)), fun h => la (F16 (ls (by decide) h)), fun h => la (F17 (ls (by decide) h)), fun h => la (F18 (ls (by decide) h)), fun _ => lself hn, fun h => la (F20 (ls (by decide) h))⟩
    · simp only [List.getElem?_toArray, List.getElem?_cons_zero, List.getElem?_cons_succ, Option.some.injEq] at ho
      subst ho
      have hJ := ln hn F20
      obtain rfl := F1 (hd ⟨1, .data⟩ (by simp) rfl)
      obtain ⟨A9, c9, rfl, hrd, hl9, hc9⟩ := F6 hJ (hd ⟨6, .data⟩ (by simp) rfl)
      refine wpOp_step rfl (fun K hK => ?_)
      go_simp
      refine hK _ _ ?_
      exact ⟨_, _, _, _, _, _, _, _, rfl, fun h => F0 (ls (by decide) h), fun h => F1 (ls (by decide) h), fun h => F2 (ls (by decide) h), fun h => F3 (ls (by decide) h), fun h => F4 (ls (by decide) h), fun h => F5 (ls (by decide) h), fun h0 h => (F6 (lsf (by decide) h0) (ls (by decide) h)), fun _ _ => ⟨A9, c9, rfl, hrd, hl9, hc9⟩, fun h => lc hn (F20 (ls (by decide) h)), F9, fun h0 => (F10 (lsf (by decide) h0)), fun h0 => (F11 (lsf (by decide) h0)), fun h0 => (F12 (lsf (by decide) h0)), fun h => la (F13 (ls (by decide) h)), fun h => la (F14 (ls (by decide) h)), fun h => la (F15 (ls (by decide) h)), fun h => la (F16 (ls (by decide) h)), fun h => la (F17 (ls (by decide) h)), fun h => la (F18 (ls (by decide) h)), fun h => la (F19 (ls (by decide) h)), fun _ => lself hn⟩
    · simp only [List.getElem?_toArray, List.getElem?_cons_zero, List.getElem?_cons_succ, Option.some.injEq] at ho
      subst ho
      have hJ := lf hn
      obtain ⟨A9, c9, rfl, hrd, hl9, hc9⟩ := F7 hJ (hd ⟨7, .data⟩ (by simp) rfl)
      have O'0 := F10 hJ; obtain ⟨_, _, _, _⟩ := id O'0
      have O'1 := F11 hJ; obtain ⟨_, _, _, _⟩ := id O'1
      have O'2 := F12 hJ; obtain ⟨_, _, _, _⟩ := id O'2
      have K9 := O'2
      refine wpOp_step rfl (fun K hK => ?_)
      go_simp
      refine hK _ _ ?_
      exact ⟨_, _, _, _, _, _, _, _, rfl, fun h => F0 (ls (by decide) h), fun h => F1 (ls (by decide) h), fun h => F2 (ls (by decide) h), fun h => F3 (ls (by decide) h), fun h => F4 (ls (by decide) h), fun h => F5 (ls (by decide) h), fun h => _root_.Go.lx hn h, fun h => _root_.Go.lx hn h, fun _ => ⟨_, _, K9.store _ _, rd_store hrd K9 _ _, hl9, hc9⟩, (bs (bs F9 (by first | (simp; done) | (simp; omega))) (by first | (simp; done) | (simp; omega))), fun h => _root_.Go.lx hn h, fun h => _root_.Go.lx hn h, fun h => _root_.Go.lx hn h, fun _ => la (hd ⟨0, .phase⟩ (by simp) rfl), fun _ => la (hd ⟨1, .phase⟩ (by simp) rfl), fun _ => la (hd ⟨2, .phase⟩ (by simp) rfl), fun _ => la (hd ⟨3, .phase⟩ (by simp) rfl), fun _ => la (hd ⟨4, .phase⟩ (by simp) rfl), fun _ => la (hd ⟨5, .phase⟩ (by simp) rfl), fun _ => la (hd ⟨6, .phase⟩ (by simp) rfl), fun _ => la (hd ⟨7, .phase⟩ (by simp) rfl)⟩
  · intro listed A w hall hI
    unfold AdMI at hI
    obtain ⟨s24, hI⟩ := hI
    obtain ⟨s25, hI⟩ := hI
    obtain ⟨s26, hI⟩ := hI
    obtain ⟨s27, hI⟩ := hI
    obtain ⟨s28, hI⟩ := hI
    obtain ⟨s29, hI⟩ := hI
    obtain ⟨s30, hI⟩ := hI
    obtain ⟨s31, hI⟩ := hI
    obtain ⟨rfl, hI⟩ := hI
    obtain ⟨F0, hI⟩ := hI
    obtain ⟨F1, hI⟩ := hI
    obtain ⟨F2, hI⟩ := hI
    obtain ⟨F3, hI⟩ := hI
    obtain ⟨F4, hI⟩ := hI
    obtain ⟨F5, hI⟩ := hI
    obtain ⟨F6, hI⟩ := hI
    obtain ⟨F7, hI⟩ := hI
    obtain ⟨F8, hI⟩ := hI
    obtain ⟨F9, hI⟩ := hI
    obtain ⟨F10, hI⟩ := hI
    obtain ⟨F11, hI⟩ := hI
    obtain ⟨F12, hI⟩ := hI
    obtain ⟨F13, hI⟩ := hI
    obtain ⟨F14, hI⟩ := hI
    obtain ⟨F15, hI⟩ := hI
    obtain ⟨F16, hI⟩ := hI
    obtain ⟨F17, hI⟩ := hI
    obtain ⟨F18, hI⟩ := hI
    obtain ⟨F19, hI⟩ := hI
    have F20 := hI; clear hI
    obtain rfl := F0 (hall 0 (by decide))
    obtain rfl := F1 (hall 1 (by decide))
    obtain rfl := F2 (hall 2 (by decide))
    obtain rfl := F3 (hall 3 (by decide))
    obtain rfl := F4 (hall 4 (by decide))
    obtain rfl := F5 (hall 5 (by decide))
    have PJ := F8 (hall 8 (by decide))
    have HB := F9
    clear hall F6 F7 F8 F9 F10 F11 F12 F13 F14 F15 F16 F17 F18 F19 F20
    try dsimp only

    exact hQ _ _ _ PJ HB
def AdNI (w0 : World) (na nb : Bool) (Pa Pb : Option Addr) (a b r : List Int) (ca cb : Nat) (c0 c1 c5 c6 c7 c8 c9 c10 c11 c12 c13 c14 c15 c16 c17 c18 c19 c20 c21 c22 c23 c24 c25 c26 c27 c28 c29 c30 c31 : Value) (listed : Array Bool) (A : Act) (w : World) : Prop := ∃ (s32 s33 s34 s35 s36 s37 s38 s39 : Value), A = { tmps := #[c0, c1, .pointer (some ⟨w0.heap.size, 0, none⟩), .pointer (some ⟨w0.heap.size + 1, 0, none⟩), .pointer (some ⟨w0.heap.size + 1 + 1, 0, none⟩), c5, c6, c7, c8, c9, c10, c11, c12, c13, c14, c15, c16, c17, c18, c19, c20, c21, c22, c23, c24, c25, c26, c27, c28, c29, c30, c31, s32, s33, s34, s35, s36, s37, s38, s39], defers := [] } ∧
  (listed.getD 0 false = true → s32 = .pointer (some ⟨w0.heap.size + 1, 0, none⟩)) ∧
  (listed.getD 1 false = true → s33 = .bool nb) ∧
  (listed.getD 2 false = true → s34 = .pointer (some ⟨w0.heap.size + 1, 1, none⟩)) ∧
  (listed.getD 3 false = true → s35 = .slice Pb b.length cb) ∧
  (listed.getD 4 false = true → s36 = .pointer (some ⟨w0.heap.size, 1, none⟩)) ∧
  (listed.getD 5 false = true → s37 = .slice Pa a.length ca) ∧
  (listed.getD 8 false = false → listed.getD 6 false = true → RdF r w s38) ∧
  (listed.getD 8 false = false → listed.getD 7 false = true → OfF nb r w s39) ∧
  (listed.getD 8 false = true → ∃ A9 c9, Own w (w0.heap.size + 1 + 1) (.bool nb) (.slice A9 r.length c9) ∧ Rd w A9 r ∧ r.length ≤ c9 ∧ c9 ≤ 9223372036854775807) ∧
  Below w0.heap.size w0 w ∧
  (listed.getD 8 false = false → Own w (w0.heap.size) (.bool na) (.slice Pa a.length ca)) ∧
  (listed.getD 8 false = false → Own w (w0.heap.size + 1) (.bool nb) (.slice Pb b.length cb)) ∧
  (listed.getD 8 false = false → Own w (w0.heap.size + 1 + 1) (.bool false) (.slice none 0 0)) ∧
  (listed.getD 8 false = true → listed.getD 0 false = true) ∧
  (listed.getD 8 false = true → listed.getD 1 false = true) ∧
  (listed.getD 8 false = true → listed.getD 2 false = true) ∧
  (listed.getD 8 false = true → listed.getD 3 false = true) ∧
  (listed.getD 8 false = true → listed.getD 4 false = true) ∧
  (listed.getD 8 false = true → listed.getD 5 false = true) ∧
  (listed.getD 8 false = true → listed.getD 6 false = true) ∧
  (listed.getD 8 false = true → listed.getD 7 false = true)

set_option maxRecDepth 100000 in
set_option maxHeartbeats 16000000 in
theorem AdN_region (na nb : Bool) (Pa Pb : Option Addr) (a b r : List Int) (ca cb : Nat) (x32 x33 x34 x35 x36 x37 x38 x39 : Value) (c0 c1 c5 c6 c7 c8 c9 c10 c11 c12 c13 c14 c15 c16 c17 c18 c19 c20 c21 c22 c23 c24 c25 c26 c27 c28 c29 c30 c31 : Value) (w0 W : World) (Q : Exit → Act → World → Prop) (hb0 : Below w0.heap.size w0 W) (Aa : Own W w0.heap.size (.bool na) (.slice Pa a.length ca)) (Ab : Own W (w0.heap.size + 1) (.bool nb) (.slice Pb b.length cb)) (Ar : Own W (w0.heap.size + 1 + 1) (.bool false) (.slice none 0 0)) (Ha : Hid (Rd w0 Pa a)) (Hb : Hid (Rd w0 Pb b)) (hla : a.length ≤ ca) (hlb : b.length ≤ cb) (HG : Hid (BinG 76 b a r))
    (hQ : ∀ w y38 y39, (∃ A9 c9, Own w (w0.heap.size + 1 + 1) (.bool nb) (.slice A9 r.length c9) ∧ Rd w A9 r ∧ r.length ≤ c9 ∧ c9 ≤ 9223372036854775807) → Below w0.heap.size w0 w → Q .normal { tmps := #[c0, c1, .pointer (some ⟨w0.heap.size, 0, none⟩), .pointer (some ⟨w0.heap.size + 1, 0, none⟩), .pointer (some ⟨w0.heap.size + 1 + 1, 0, none⟩), c5, c6, c7, c8, c9, c10, c11, c12, c13, c14, c15, c16, c17, c18, c19, c20, c21, c22, c23, c24, c25, c26, c27, c28, c29, c30, c31, .pointer (some ⟨w0.heap.size + 1, 0, none⟩), .bool nb, .pointer (some ⟨w0.heap.size + 1, 1, none⟩), .slice Pb b.length cb, .pointer (some ⟨w0.heap.size, 1, none⟩), .slice Pa a.length ca, y38, y39], defers := [] } w) :
    Code.wp Tryd.prog ((Tryd.f51.body.bind (regionOf 5)).getD .skip) Q { tmps := #[c0, c1, .pointer (some ⟨w0.heap.size, 0, none⟩), .pointer (some ⟨w0.heap.size + 1, 0, none⟩), .pointer (some ⟨w0.heap.size + 1 + 1, 0, none⟩), c5, c6, c7, c8, c9, c10, c11, c12, c13, c14, c15, c16, c17, c18, c19, c20, c21, c22, c23, c24, c25, c26, c27, c28, c29, c30, c31, x32, x33, x34, x35, x36, x37, x38, x39], defers := [] } W := by
  conv => arg 2; whnf
  refine wp_region_inv (by kernel_rfl) (by kernel_rfl) (AdNI w0 na nb Pa Pb a b r ca cb c0 c1 c5 c6 c7 c8 c9 c10 c11 c12 c13 c14 c15 c16 c17 c18 c19 c20 c21 c22 c23 c24 c25 c26 c27 c28 c29 c30 c31) ?_ ?_ ?_
  · exact ⟨_, _, _, _, _, _, _, _, rfl, fun h => absurd h l0, fun h => absurd h l0, fun h => absurd h l0, fun h => absurd h l0, fun h => absurd h l0, fun h => absurd h l0, fun _ h => absurd h l0, fun _ h => absurd h l0, fun h => absurd h l0, bdr hb0, fun _ => Aa.drew, fun _ => Ab.drew, fun _ => Ar.drew, fun h => absurd h l0, fun h => absurd h l0, fun h => absurd h l0, fun h => absurd h l0, fun h => absurd h l0, fun h => absurd h l0, fun h => absurd h l0, fun h => absurd h l0⟩
  · intro i o listed A w hi ho hd hn hI
    unfold AdNI at hI
    obtain ⟨s32, hI⟩ := hI
    obtain ⟨s33, hI⟩ := hI
    obtain ⟨s34, hI⟩ := hI
    obtain ⟨s35, hI⟩ := hI
    obtain ⟨s36, hI⟩ := hI
    obtain ⟨s37, hI⟩ := hI
    obtain ⟨s38, hI⟩ := hI
    obtain ⟨s39, hI⟩ := hI
    obtain ⟨rfl, hI⟩ := hI
    obtain ⟨F0, hI⟩ := hI
    obtain ⟨F1, hI⟩ := hI
    obtain ⟨F2, hI⟩ := hI
    obtain ⟨F3, hI⟩ := hI
    obtain ⟨F4, hI⟩ := hI
    obtain ⟨F5, hI⟩ := hI
    obtain ⟨F6, hI⟩ := hI
    obtain ⟨F7, hI⟩ := hI
    obtain ⟨F8, hI⟩ := hI
    obtain ⟨F9, hI⟩ := hI
    obtain ⟨F10, hI⟩ := hI
    obtain ⟨F11, hI⟩ := hI
    obtain ⟨F12, hI⟩ := hI
    obtain ⟨F13, hI⟩ := hI
    obtain ⟨F14, hI⟩ := hI
    obtain ⟨F15, hI⟩ := hI
    obtain ⟨F16, hI⟩ := hI
    obtain ⟨F17, hI⟩ := hI
    obtain ⟨F18, hI⟩ := hI
    obtain ⟨F19, hI⟩ := hI
    have F20 := hI; clear hI
    have hi' : i < 9 := hi
    clear hi
    rcases (by omega : i = 0 ∨ i = 1 ∨ i = 2 ∨ i = 3 ∨ i = 4 ∨ i = 5 ∨ i = 6 ∨ i = 7 ∨ i = 8) with rfl | rfl | rfl | rfl | rfl | rfl | rfl | rfl | rfl
    · simp only [List.getElem?_toArray, List.getElem?_cons_zero, Option.some.injEq] at ho
      subst ho
      have hJ := ln hn F13
      refine wpOp_step rfl (fun K hK => ?_)
      go_simp
      refine hK _ _ ?_
      exact ⟨_, _, _, _, _, _, _, _, rfl, fun _ => rfl, fun h => F1 (ls (by decide) h), fun h => F2 (ls (by decide) h), fun h => F3 (ls (by decide) h), fun h => F4 (ls (by decide) h), fun h => F5 (ls (by decide) h), fun h0 h => (F6 (lsf (by decide) h0) (ls (by decide) h)), fun h0 h => (F7 (lsf (by decide) h0) (ls (by decide) h)), fun h => lc hn (F13 (ls (by decide) h)), F9, fun h0 => (F10 (lsf (by decide) h0)), fun h0 => (F11 (lsf (by decide) h0)), fun h0 => (F12 (lsf (by decide) h0)), fun _ => lself hn, fun h => la (F14 (ls (by decide) h)), fun h => la (F15 (ls (by decide) h)), fun h => la (F16 (ls (by decide) h)), fun h => la (F17 (ls (by decide) h)), fun h => la (F18 (ls (by decide) h)), fun h => la (F19 (ls (by decide) h)), fun h => la (F20 (ls (by decide) h))⟩
    · simp only [List.getElem?_toArray, List.getElem?_cons_zero, List.getElem?_cons_succ, Option.some.injEq] at ho
      subst ho
      have hJ := ln hn F14
      obtain rfl := F0 (hd ⟨0, .data⟩ (by simp) rfl)
      have O'0 := F10 hJ; obtain ⟨_, _, _, _⟩ := id O'0
      have O'1 := F11 hJ; obtain ⟨_, _, _, _⟩ := id O'1
      have O'2 := F12 hJ; obtain ⟨_, _, _, _⟩ := id O'2
      refine wpOp_step rfl (fun K hK => ?_)
      go_simp
      refine hK _ _ ?_
      exact ⟨_, _, _, _, _, _, _, _, rfl, fun h => F0 (ls (by decide) h), fun _ => rfl, fun h => F2 (ls (by decide) h), fun h => F3 (ls (by decide) h), fun h => F4 (ls (by decide) h), fun h => F5 (ls (by decide) h), fun h0 h => (F6 (lsf (by decide) h0) (ls (by decide) h)), fun h0 h => (F7 (lsf (by decide) h0) (ls (by decide) h)), fun h => lc hn (F14 (ls (by decide) h)), F9, fun h0 => (F10 (lsf (by decide) h0)), fun h0 => (F11 (lsf (by decide) h0)), fun h0 => (F12 (lsf (by decide) h0)), fun h => la (F13 (ls (by decide) h)), fun _ => lself hn, fun h => la (F15 (ls (by decide) h)), fun h => la (F16 (ls (by decide) h)), fun h => la (F17 (ls (by decide) h)), fun h => la (F18 (ls (by decide) h)), fun h => la (F19 (ls (by decide) h)), fun h => la (F20 (ls (by decide) h))⟩
    · simp only [List.getElem?_toArray, List.getElem?_cons_zero, List.getElem?_cons_succ, Option.some.injEq] at ho
      subst ho
      have hJ := ln hn F15
      refine wpOp_step rfl (fun K hK => ?_)
      go_simp
      refine hK _ _ ?_
      exact ⟨_, _, _, _, _, _, _, _, rfl, fun h => F0 (ls (by decide) h), fun h => F1 (ls (by decide) h), fun _ => rfl, fun h => F3 (ls (by decide) h), fun h => F4 (ls (by decide) h), fun h => F5 (ls (by decide) h), fun h0 h => (F6 (lsf (by decide) h0) (ls (by decide) h)), fun h0 h => (F7 (lsf (by decide) h0) (ls (by decide) h)), fun h => lc hn (F15 (ls (by decide) h)), F9, fun h0 => (F10 (lsf (by decide) h0)), fun h0 => (F11 (lsf (by decide) h0)), fun h0 => (F12 (lsf (by decide) h0)), fun h => la (F13 (ls (by decide) h)), fun h => la (F14 (ls (by decide) h)), fun _ => lself hn, fun h => la (F16 (ls (by decide) h)), fun h => la (F17 (ls (by decide) h)), fun h => la (F18 (ls (by decide) h)), fun h => la (F19 (ls (by decide) h)), fun h => la (F20 (ls (by decide) h))⟩
    · simp only [List.getElem?_toArray, List.getElem?_cons_zero, List.getElem?_cons_succ, Option.some.injEq] at ho
      subst ho
      have hJ := ln hn F16
      obtain rfl := F2 (hd ⟨2, .data⟩ (by simp) rfl)
      have O'0 := F10 hJ; obtain ⟨_, _, _, _⟩ := id O'0
      have O'1 := F11 hJ; obtain ⟨_, _, _, _⟩ := id O'1
      have O'2 := F12 hJ; obtain ⟨_, _, _, _⟩ := id O'2
      refine wpOp_step rfl (fun K hK => ?_)
      go_simp
      refine hK _ _ ?_
      exact ⟨_, _, _, _, _, _, _, _, rfl, fun h => F0 (ls (by decide) h), fun h => F1 (ls (by decide) h), fun h => F2 (ls (by decide) h), fun _ => rfl, fun h => F4 (ls (by decide) h), fun h => F5 (ls (by decide) h), fun h0 h => (F6 (lsf (by decide) h0) (ls (by decide) h)), fun h0 h => (F7 (lsf (by decide) h0) (ls (by decide) h)), fun h => lc hn (F16 (ls (by decide) h)), F9, fun h0 => (F10 (lsf (by decide) h0)), fun h0 => (F11 (lsf (by decide) h0)), fun h0 => (F12 (lsf (by decide) h0)), fun h => la (F13 (ls (by decide) h)), fun h => la (F14 (ls (by decide) h)), fun h => la (F15 (ls (by decide) h)), fun _ => lself hn, fun h => la (F17 (ls (by decide) h)), fun h => la (F18 (ls (by decide) h)), fun h => la (F19 (ls (by decide) h)), fun h => la (F20 (ls (by decide) h))⟩
    · simp only [List.getElem?_toArray, List.getElem?_cons_zero, List.getElem?_cons_succ, Option.some.injEq] at ho
      subst ho
      have hJ := ln hn F17
      refine wpOp_step rfl (fun K hK => ?_)
      go_simp
      refine hK _ _ ?_
      exact ⟨_, _, _, _, _, _, _, _, rfl, fun h => F0 (ls (by decide) h), fun h => F1 (ls (by decide) h), fun h => F2 (ls (by decide) h), fun h => F3 (ls (by decide) h), fun _ => rfl, fun h => F5 (ls (by decide) h), fun h0 h => (F6 (lsf (by decide) h0) (ls (by decide) h)), fun h0 h => (F7 (lsf (by decide) h0) (ls (by decide) h)), fun h => lc hn (F17 (ls (by decide) h)), F9, fun h0 => (F10 (lsf (by decide) h0)), fun h0 => (F11 (lsf (by decide) h0)), fun h0 => (F12 (lsf (by decide) h0)), fun h => la (F13 (ls (by decide) h)), fun h => la (F14 (ls (by decide) h)), fun h => la (F15 (ls (by decide) h)), fun h => la (F16 (ls (by decide) h)), fun _ => lself hn, fun h => la (F18 (ls (by decide) h)), fun h => la (F19 (ls (by decide) h)), fun h => la (F20 (ls (by decide) h))⟩
    · simp only [List.getElem?_toArray, List.getElem?_cons_zero, List.getElem?_cons_succ, Option.some.injEq] at ho
      subst ho
      have hJ := ln hn F18
      obtain rfl := F4 (hd ⟨4, .data⟩ (by simp) rfl)
      have O'0 := F10 hJ; obtain ⟨_, _, _, _⟩ := id O'0
      have O'1 := F11 hJ; obtain ⟨_, _, _, _⟩ := id O'1
      have O'2 := F12 hJ; obtain ⟨_, _, _, _⟩ := id O'2
      refine wpOp_step rfl (fun K hK => ?_)
      go_simp
      refine hK _ _ ?_
      exact ⟨_, _, _, _, _, _, _, _, rfl, fun h => F0 (ls (by decide) h), fun h => F1 (ls (by decide) h), fun h => F2 (ls (by decide) h), fun h => F3 (ls (by decide) h), fun h => F4 (ls (by decide) h), fun _ => rfl, fun h0 h => (F6 (lsf (by decide) h0) (ls (by decide) h)), fun h0 h => (F7 (lsf (by decide) h0) (ls (by decide) h)), fun h => lc hn (F18 (ls (by decide) h)), F9, fun h0 => (F10 (lsf (by decide) h0)), fun h0 => (F11 (lsf (by decide) h0)), fun h0 => (F12 (lsf (by decide) h0)), fun h => la (F13 (ls (by decide) h)), fun h => la (F14 (ls (by decide) h)), fun h => la (F15 (ls (by decide) h)), fun h => la (F16 (ls (by decide) h)), fun h => la (F17 (ls (by decide) h)), fun _ => lself hn, fun h => la (F19 (ls (by decide) h)), fun h => la (F20 (ls (by decide) h))⟩
    · simp only [List.getElem?_toArray, List.getElem?_cons_zero, List.getElem?_cons_succ, Option.some.injEq] at ho
      subst ho
      have hJ := ln hn F19
      obtain rfl := F3 (hd ⟨3, .data⟩ (by simp) rfl)
      obtain rfl := F5 (hd ⟨5, .data⟩ (by simp) rfl)
      refine wpOp_step rfl (fun K hK => ?_)
      go_simp
      go_at_call 76; refine (HG.out w Pb Pa cb ca (Hb.out.call F9) (Ha.out.call F9) hlb hla).mono ?_; rintro e w' ⟨v, rfl, hof, hb⟩
      refine hK _ _ ?_
      exact ⟨_, _, _, _, _, _, _, _, rfl, fun h => F0 (ls (by decide) h), fun h => F1 (ls (by decide) h), fun h => F2 (ls (by decide) h), fun h => F3 (ls (by decide) h), fun h => F4 (ls (by decide) h), fun h => F5 (ls (by decide) h), fun _ _ => hof, fun h0 h => (F7 (lsf (by decide) h0) (ls (by decide) h)).call hb, fun h => lc hn (F19 (ls (by decide) h)), bt F9 hb, fun h0 => (F10 (lsf (by decide) h0)).call hb, fun h0 => (F11 (lsf (by decide) h0)).call hb, fun h0 => (F12 (lsf (by decide) h0)).call hb, fun h => la (F13 (ls (by decide) h)), fun h => la (F14 (ls (by decide) h)), fun h => la (F15 (ls (by decide) h)), fun h => la (F16 (ls (by decide) h)), fun h => la (F17 (ls (by decide) h)), fun h => la (F18 (ls (by decide) h)), fun _ => lself hn, fun h => la (F20 (ls (by decide) h))⟩
    · simp only [List.getElem?_toArray, List.getElem?_cons_zero, List.getElem?_cons_succ, Option.some.injEq] at ho
      subst ho
      have hJ := ln hn F20
      obtain rfl := F1 (hd ⟨1, .data⟩ (by simp) rfl)
      obtain ⟨A9, c9, rfl, hrd, hl9, hc9⟩ := F6 hJ (hd ⟨6, .data⟩ (by simp) rfl)
      refine wpOp_step rfl (fun K hK => ?_)
      go_simp
      refine hK _ _ ?_
      exact ⟨_, _, _, _, _, _, _, _, rfl, fun h => F0 (ls (by decide) h), fun h => F1 (ls (by decide) h), fun h => F2 (ls (by decide) h), fun h => F3 (ls (by decide) h), fun h => F4 (ls (by decide) h), fun h => F5 (ls (by decide) h), fun h0 h => (F6 (lsf (by decide) h0) (ls (by decide) h)), fun _ _ => ⟨A9, c9, rfl, hrd, hl9, hc9⟩, fun h => lc hn (F20 (ls (by decide) h)), F9, fun h0 => (F10 (lsf (by decide) h0)), fun h0 => (F11 (lsf (by decide) h0)), fun h0 => (F12 (lsf (by decide) h0)), fun h => la (F13 (ls (by decide) h)), fun h => la (F14 (ls (by decide) h)), fun h => la (F15 (ls (by decide) h)), fun h => la (F16 (ls (by decide) h)), fun h => la (F17 (ls (by decide) h)), fun h => la (F18 (ls (by decide) h)), fun h => la (F19 (ls (by decide) h)), fun _ => lself hn⟩
    · simp only [List.getElem?_toArray, List.getElem?_cons_zero, List.getElem?_cons_succ, Option.some.injEq] at ho
      subst ho
      have hJ := lf hn
      obtain ⟨A9, c9, rfl, hrd, hl9, hc9⟩ := F7 hJ (hd ⟨7, .data⟩ (by simp) rfl)
      have O'0 := F10 hJ; obtain ⟨_, _, _, _⟩ := id O'0
      have O'1 := F11 hJ; obtain ⟨_, _, _, _⟩ := id O'1
      have O'2 := F12 hJ; obtain ⟨_, _, _, _⟩ := id O'2
      have K9 := O'2
      refine wpOp_step rfl (fun K hK => ?_)
      go_simp
      refine hK _ _ ?_
      exact ⟨_, _, _, _, _, _, _, _, rfl, fun h => F0 (ls (by decide) h), fun h => F1 (ls (by decide) h), fun h => F2 (ls (by decide) h), fun h => F3 (ls (by decide) h), fun h => F4 (ls (by decide) h), fun h => F5 (ls (by decide) h), fun h => _root_.Go.lx hn h, fun h => _root_.Go.lx hn h, fun _ => ⟨_, _, K9.store _ _, rd_store hrd K9 _ _, hl9, hc9⟩, (bs (bs F9 (by first | (simp; done) | (simp; omega))) (by first | (simp; done) | (simp; omega))), fun h => _root_.Go.lx hn h, fun h => _root_.Go.lx hn h, fun h => _root_.Go.lx hn h, fun _ => la (hd ⟨0, .phase⟩ (by simp) rfl), fun _ => la (hd ⟨1, .phase⟩ (by simp) rfl), fun _ => la (hd ⟨2, .phase⟩ (by simp) rfl), fun _ => la (hd ⟨3, .phase⟩ (by simp) rfl), fun _ => la (hd ⟨4, .phase⟩ (by simp) rfl), fun _ => la (hd ⟨5, .phase⟩ (by simp) rfl), fun _ => la (hd ⟨6, .phase⟩ (by simp) rfl), fun _ => la (hd ⟨7, .phase⟩ (by simp) rfl)⟩
  · intro listed A w hall hI
    unfold AdNI at hI
    obtain ⟨s32, hI⟩ := hI
    obtain ⟨s33, hI⟩ := hI
    obtain ⟨s34, hI⟩ := hI
    obtain ⟨s35, hI⟩ := hI
    obtain ⟨s36, hI⟩ := hI
    obtain ⟨s37, hI⟩ := hI
    obtain ⟨s38, hI⟩ := hI
    obtain ⟨s39, hI⟩ := hI
    obtain ⟨rfl, hI⟩ := hI
    obtain ⟨F0, hI⟩ := hI
    obtain ⟨F1, hI⟩ := hI
    obtain ⟨F2, hI⟩ := hI
    obtain ⟨F3, hI⟩ := hI
    obtain ⟨F4, hI⟩ := hI
    obtain ⟨F5, hI⟩ := hI
    obtain ⟨F6, hI⟩ := hI
    obtain ⟨F7, hI⟩ := hI
    obtain ⟨F8, hI⟩ := hI
    obtain ⟨F9, hI⟩ := hI
    obtain ⟨F10, hI⟩ := hI
    obtain ⟨F11, hI⟩ := hI
    obtain ⟨F12, hI⟩ := hI
    obtain ⟨F13, hI⟩ := hI
    obtain ⟨F14, hI⟩ := hI
    obtain ⟨F15, hI⟩ := hI
    obtain ⟨F16, hI⟩ := hI
    obtain ⟨F17, hI⟩ := hI
    obtain ⟨F18, hI⟩ := hI
    obtain ⟨F19, hI⟩ := hI
    have F20 := hI; clear hI
    obtain rfl := F0 (hall 0 (by decide))
    obtain rfl := F1 (hall 1 (by decide))
    obtain rfl := F2 (hall 2 (by decide))
    obtain rfl := F3 (hall 3 (by decide))
    obtain rfl := F4 (hall 4 (by decide))
    obtain rfl := F5 (hall 5 (by decide))
    have PJ := F8 (hall 8 (by decide))
    have HB := F9
    clear hall F6 F7 F8 F9 F10 F11 F12 F13 F14 F15 F16 F17 F18 F19 F20
    try dsimp only

    exact hQ _ _ _ PJ HB
end Go.Proofs
namespace Go.Proofs
open Go.Shelf Go.RowKit Go.Proofs.Wide Go.Proofs.Dig
/-- A whole number as the reference holds it: its sign, its digits. -/
def BigZ (neg : Bool) (l : List Int) : Int := sg neg (val l)
/-- The reference's sum of whole numbers. -/
def addB (na nb : Bool) (a b : List Int) : Bool × List Int :=
  if na = nb then (na, digs (val a + val b).toNat) else if val b ≤ val a then (na, digs (val a - val b).toNat) else (nb, digs (val b - val a).toNat)
set_option maxRecDepth 100000 in
set_option maxHeartbeats 4000000 in
theorem refAdd_any (na nb : Bool) (A B : Option Addr) (a b : List Int) (ca cb : Nat) (w0 : World) (ha : Canon a) (hb : Canon b) (hra : Rd w0 A a) (hrb : Rd w0 B b) (hla : a.length ≤ ca) (hlb : b.length ≤ cb) (ha6 : a.length ≤ 1000000) (hb6 : b.length ≤ 1000000) :
    Calls Tryd.prog 51 #[.agg #[.bool na, .slice A a.length ca], .agg #[.bool nb, .slice B b.length cb]] w0 fun e w' => ∃ v, e = .returned v ∧ OfF (addB na nb a b).1 (addB na nb a b).2 w' v ∧ Below w0.heap.size w0 w' := by
  have Ha := Lib.hid hra; have Hb := Lib.hid hrb
  have HC := Lib.hid (refCmp_any A B a b ca cb)
  have HCa := Lib.hid ha; have HCb := Lib.hid hb
  clear hra hrb ha hb
  by_cases hn : na = nb
  · subst hn
    have hA : addB na na a b = (na, digs (val a + val b).toNat) := by unfold addB; rw [if_pos rfl]
    rw [hA]
    have HG := Lib.hid (plus_g a b HCa.out HCb.out ha6 hb6)
    have hnn : (na == na) = true := by simp
    clear hA
    go_enter Tryd.func51, Tryd.ntmps51
    go_upto_region 2 with fail
    refine AdP_region na na A B a b (digs (val a + val b).toNat) ca cb _ _ _ _ _ _ _ _ _ _ _ _ _ _ _ _ _ _ _ _ _ _ _ _ _ _ _ _ _ _ _ _ _ _ _ _ _ w0 _ _ (ba (ba (ba (Below.refl _ _)))) (((Own.new_at rfl).alloc _).alloc _) ((Own.new_at (by simp)).alloc _) (Own.new_at (by simp)) Ha Hb hla hlb HG ?_
    intro w' y16 y17 PJ HB
    obtain ⟨A9, c9, K9, hr9, hl9, hc9⟩ := PJ
    obtain ⟨_, _, _, _⟩ := id K9
    go_wp2
    exact bodyPost_ret (v := .agg #[.bool na, .slice A9 (digs (val a + val b).toNat).length c9]) (by simp [results, Tryd.results51, go_sem, *]) rfl ⟨_, rfl, ⟨A9, c9, rfl, hr9, hl9, hc9⟩, HB⟩
  · have hnn : (na == nb) = false := by simpa using hn
    by_cases hge : val b ≤ val a
    · have hA : addB na nb a b = (na, digs (val a - val b).toNat) := by unfold addB; rw [if_neg hn, if_pos hge]
      have hc : decide ((0 : Int) ≤ cmpV (val a) (val b)) = true := by unfold cmpV; simp; split <;> (try split) <;> omega
      obtain ⟨cv, hcv⟩ : ∃ cv, cmpV (val a) (val b) = cv := ⟨_, rfl⟩
      rw [hcv] at HC hc
      rw [hA]
      have HG := Lib.hid (minus_g a b HCa.out HCb.out hge ha6)
      clear hA hge hn hcv
      go_enter Tryd.func51, Tryd.ntmps51
      go_upto_region 4 with (go_at_call 75; refine (HC.out _ HCa.out HCb.out (Ha.out.call (ba (ba (ba (Below.refl _ _))))) (Hb.out.call (ba (ba (ba (Below.refl _ _))))) hla hlb ha6).mono ?_; rintro e w1 ⟨rfl, hb1⟩; have B1 := bt (ba (ba (ba (Below.refl _ _)))) hb1)
      refine AdM_region na nb A B a b (digs (val a - val b).toNat) ca cb _ _ _ _ _ _ _ _ _ _ _ _ _ _ _ _ _ _ _ _ _ _ _ _ _ _ _ _ _ _ _ _ _ _ _ _ _ w0 _ _ B1 ((((Own.new_at rfl).alloc _).alloc _ : Own _ w0.heap.size _ _).call hb1) ((((Own.new_at (by simp)).alloc _ : Own _ (w0.heap.size + 1) _ _)).call hb1) ((Own.new_at (by simp) : Own _ (w0.heap.size + 1 + 1) _ _).call hb1) Ha Hb hla hlb HG ?_
      intro w' y16 y17 PJ HB
      obtain ⟨A9, c9, K9, hr9, hl9, hc9⟩ := PJ
      obtain ⟨_, _, _, _⟩ := id K9
      go_wp2
      exact bodyPost_ret (v := .agg #[.bool na, .slice A9 (digs (val a - val b).toNat).length c9]) (by simp [results, Tryd.results51, go_sem, *]) rfl ⟨_, rfl, ⟨A9, c9, rfl, hr9, hl9, hc9⟩, HB⟩
    · have hA : addB na nb a b = (nb, digs (val b - val a).toNat) := by unfold addB; rw [if_neg hn, if_neg hge]
      have hc : decide ((0 : Int) ≤ cmpV (val a) (val b)) = false := by unfold cmpV; simp; split <;> (try split) <;> omega
      obtain ⟨cv, hcv⟩ : ∃ cv, cmpV (val a) (val b) = cv := ⟨_, rfl⟩
      rw [hcv] at HC hc
      rw [hA]
      have HG := Lib.hid (minus_g b a HCb.out HCa.out (by omega) hb6)
      clear hA hge hn hcv
      go_enter Tryd.func51, Tryd.ntmps51
      go_upto_region 5 with (go_at_call 75; refine (HC.out _ HCa.out HCb.out (Ha.out.call (ba (ba (ba (Below.refl _ _))))) (Hb.out.call (ba (ba (ba (Below.refl _ _))))) hla hlb ha6).mono ?_; rintro e w1 ⟨rfl, hb1⟩; have B1 := bt (ba (ba (ba (Below.refl _ _)))) hb1)
      refine AdN_region na nb A B a b (digs (val b - val a).toNat) ca cb _ _ _ _ _ _ _ _ _ _ _ _ _ _ _ _ _ _ _ _ _ _ _ _ _ _ _ _ _ _ _ _ _ _ _ _ _ w0 _ _ B1 ((((Own.new_at rfl).alloc _).alloc _ : Own _ w0.heap.size _ _).call hb1) ((((Own.new_at (by simp)).alloc _ : Own _ (w0.heap.size + 1) _ _)).call hb1) ((Own.new_at (by simp) : Own _ (w0.heap.size + 1 + 1) _ _).call hb1) Ha Hb hla hlb HG ?_
      intro w' y16 y17 PJ HB
      obtain ⟨A9, c9, K9, hr9, hl9, hc9⟩ := PJ
      obtain ⟨_, _, _, _⟩ := id K9
      go_wp2
      exact bodyPost_ret (v := .agg #[.bool nb, .slice A9 (digs (val b - val a).toNat).length c9]) (by simp [results, Tryd.results51, go_sem, *]) rfl ⟨_, rfl, ⟨A9, c9, rfl, hr9, hl9, hc9⟩, HB⟩
end Go.Proofs
namespace Go
open Go.RowKit
section
variable {P : Program} (w : World)
theorem step_append_any {ops : Array Oper} {o : Oper} {a : Act} {K : Act → World → Prop} {Q : Exit → Act → World → Prop} {E : Prop} (hgd : o.guard = none) (s x : Operand) (t : TypeId)
    (ho : o.op = .call { callee := .builtin .append, args := #[s, x], argTypes := #[t, t] })
    (base : Nat) (e : TypeId) (i : TypeInfo) (z : Value) (size bytes : Nat) (ht : P.underlying t = some (.slice e)) (hi : P.info? e = some i) (hz : i.zero = some z)
    (hsize : i.size = size) (hby : i.bytes = bytes) (hzs : z.cells.size = size) (hsz : 0 < size)
    (v : Value) (n : Nat) (xs : List Value) (hs : a.eval s = v) (hown : w.ownsRow base e size v n xs)
    (B : Nat) (A : Option Addr) (m c : Nat) (news : List Value) (hx : a.eval x = .slice A m c) (hr : Reads w B size A m news) (h1 : ∀ u ∈ news, u.oneCell' = true)
    (h63 : n + m ≤ maxLen) (hbytes : (n + m) * bytes ≤ 140737488355328) (hbase : base ≤ w.heap.size)
    (h : ∀ v' w', w'.ownsRow base e size v' (n + m) (xs ++ news) → w.grownBy w' v.ownBlock → (v'.ownBlock = v.ownBlock ∨ v'.ownBlock = some w.heap.size) → K (a.put o.dst v') w') :
    if Region.wanted o (yielded ops a.tmps) = true then Oper.wp P o a w K Q else E := by
  have hw : Region.wanted o (yielded ops a.tmps) = true := by simp [Region.wanted, hgd]
  rw [if_pos hw]
  exact wp_append_any w s x t ho base e i z size bytes ht hi hz hsize hby hzs hsz v n xs hs hown B A m c news hx hr h1 h63 hbytes hbase h
end
end Go
namespace Go.Proofs
open Go.Shelf Go.RowKit Go.Proofs.Wide Go.Proofs.Dig
theorem cellsD_one (l : List Int) : ∀ u ∈ cellsD l, u.oneCell' = true := by
  intro u hu
  obtain ⟨d, _, rfl⟩ := List.mem_map.1 hu
  rfl
theorem reads_of_rd (w : World) {A : Option Addr} {l : List Int} (h : Rd w A l) : ∃ B, Reads w B 1 A l.length (cellsD l) := by
  by_cases hl : l = []
  · subst hl; exact ⟨0, rfl, fun h => absurd h (by simp)⟩
  · obtain ⟨ad, rfl, hc⟩ := h hl
    refine ⟨ad.block + 1, by unfold cellsD; simp, fun _ => ⟨ad, rfl, Nat.lt_succ_self _, fun j u hu => ?_⟩⟩
    unfold cellsD at hu
    rw [List.getElem?_map] at hu
    obtain ⟨d, hd, rfl⟩ := Option.map_eq_some_iff.1 hu
    exact hc j d hd
theorem rdF_app {w : World} {B n : Nat} {v : Value} {l : List Int} (h : w.ownsRow B 3 1 v (n + l.length) (cellsD (List.replicate n 0) ++ cellsD l)) : RdF (List.replicate n 0 ++ l) w v := by
  obtain ⟨A, c, rfl⟩ := own_slice h
  have e : cellsD (List.replicate n 0) ++ cellsD l = cellsD (List.replicate n 0 ++ l) := by unfold cellsD; simp
  rw [e] at h
  have hl : n + l.length = (List.replicate n (0 : Int) ++ l).length := by simp
  obtain ⟨hr, h1, h2⟩ := rd_of_row h hl
  rw [hl] at h1 ⊢
  exact ⟨A, c, rfl, hr, h1, h2⟩
def Up8I (w0 : World) (neg : Bool) (Pa Pz : Option Addr) (l r : List Int) (n c cz : Nat) (c0 c1 c3 c6 c7 c8 c9 c10 c11 c12 c13 c14 c15 c16 c17 c18 c19 : Value) (listed : Array Bool) (A : Act) (w : World) : Prop := ∃ (s20 s21 s22 s23 s24 s25 s26 : Value), A = { tmps := #[c0, c1, .pointer (some ⟨w0.heap.size, 0, none⟩), c3, .pointer (some ⟨w0.heap.size + 1, 0, none⟩), .slice Pz n cz, c6, c7, c8, c9, c10, c11, c12, c13, c14, c15, c16, c17, c18, c19, s20, s21, s22, s23, s24, s25, s26], defers := [] } ∧
  (listed.getD 0 false = true → s20 = .pointer (some ⟨w0.heap.size, 0, none⟩)) ∧
  (listed.getD 1 false = true → s21 = .bool neg) ∧
  (listed.getD 2 false = true → s22 = .slice Pz n cz) ∧
  (listed.getD 3 false = true → s23 = .pointer (some ⟨w0.heap.size, 1, none⟩)) ∧
  (listed.getD 4 false = true → s24 = .slice Pa l.length c) ∧
  (listed.getD 7 false = false → listed.getD 5 false = true → RdF r w s25) ∧
  (listed.getD 7 false = false → listed.getD 6 false = true → OfF neg r w s26) ∧
  (listed.getD 7 false = true → ∃ A9 c9, Own w (w0.heap.size + 1) (.bool neg) (.slice A9 r.length c9) ∧ Rd w A9 r ∧ r.length ≤ c9 ∧ c9 ≤ 9223372036854775807) ∧
  Below w0.heap.size w0 w ∧
  (listed.getD 7 false = false → Own w (w0.heap.size) (.bool neg) (.slice Pa l.length c)) ∧
  (listed.getD 7 false = false → Own w (w0.heap.size + 1) (.bool false) (.slice none 0 0)) ∧
  (listed.getD 7 false = true → listed.getD 0 false = true) ∧
  (listed.getD 7 false = true → listed.getD 1 false = true) ∧
  (listed.getD 7 false = true → listed.getD 2 false = true) ∧
  (listed.getD 7 false = true → listed.getD 3 false = true) ∧
  (listed.getD 7 false = true → listed.getD 4 false = true) ∧
  (listed.getD 7 false = true → listed.getD 5 false = true) ∧
  (listed.getD 7 false = true → listed.getD 6 false = true) ∧
  (listed.getD 5 false = false → w.ownsRow w0.heap.size 3 1 (.slice Pz n cz) n (cellsD (List.replicate n 0))) ∧
  (listed.getD 6 false = true → listed.getD 5 false = true)

set_option maxRecDepth 100000 in
set_option maxHeartbeats 16000000 in
theorem Up8_region (neg : Bool) (Pa Pz : Option Addr) (l r : List Int) (n c cz : Nat) (x20 x21 x22 x23 x24 x25 x26 : Value) (c0 c1 c3 c6 c7 c8 c9 c10 c11 c12 c13 c14 c15 c16 c17 c18 c19 : Value) (w0 W : World) (Q : Exit → Act → World → Prop) (hb0 : Below w0.heap.size w0 W) (Aa : Own W w0.heap.size (.bool neg) (.slice Pa l.length c)) (Ar : Own W (w0.heap.size + 1) (.bool false) (.slice none 0 0)) (HR : Hid (List.replicate n 0 ++ l = r)) (HL : Hid (Rd w0 Pa l)) (hln : l.length ≤ 1000000) (hn6 : n ≤ 1000000) (HZ : W.ownsRow w0.heap.size 3 1 (.slice Pz n cz) n (cellsD (List.replicate n 0))) (HNZ : Hid (∀ g, (.slice Pz n cz : Value).ownBlock = some g → w0.heap.size + 1 < g))
    (hQ : ∀ w y25 y26, (∃ A9 c9, Own w (w0.heap.size + 1) (.bool neg) (.slice A9 r.length c9) ∧ Rd w A9 r ∧ r.length ≤ c9 ∧ c9 ≤ 9223372036854775807) → Below w0.heap.size w0 w → Q .normal { tmps := #[c0, c1, .pointer (some ⟨w0.heap.size, 0, none⟩), c3, .pointer (some ⟨w0.heap.size + 1, 0, none⟩), .slice Pz n cz, c6, c7, c8, c9, c10, c11, c12, c13, c14, c15, c16, c17, c18, c19, .pointer (some ⟨w0.heap.size, 0, none⟩), .bool neg, .slice Pz n cz, .pointer (some ⟨w0.heap.size, 1, none⟩), .slice Pa l.length c, y25, y26], defers := [] } w) :
    Code.wp Tryd.prog ((Tryd.f50.body.bind (regionOf 8)).getD .skip) Q { tmps := #[c0, c1, .pointer (some ⟨w0.heap.size, 0, none⟩), c3, .pointer (some ⟨w0.heap.size + 1, 0, none⟩), .slice Pz n cz, c6, c7, c8, c9, c10, c11, c12, c13, c14, c15, c16, c17, c18, c19, x20, x21, x22, x23, x24, x25, x26], defers := [] } W := by
  conv => arg 2; whnf
  refine wp_region_inv (by kernel_rfl) (by kernel_rfl) (Up8I w0 neg Pa Pz l r n c cz c0 c1 c3 c6 c7 c8 c9 c10 c11 c12 c13 c14 c15 c16 c17 c18 c19) ?_ ?_ ?_
  · exact ⟨_, _, _, _, _, _, _, rfl, fun h => absurd h l0, fun h => absurd h l0, fun h => absurd h l0, fun h => absurd h l0, fun h => absurd h l0, fun _ h => absurd h l0, fun _ h => absurd h l0, fun h => absurd h l0, bdr hb0, fun _ => Aa.drew, fun _ => Ar.drew, fun h => absurd h l0, fun h => absurd h l0, fun h => absurd h l0, fun h => absurd h l0, fun h => absurd h l0, fun h => absurd h l0, fun h => absurd h l0, fun _ => HZ, fun h => absurd h l0⟩
  · intro i o listed A w hi ho hd hn hI
    unfold Up8I at hI
    obtain ⟨s20, hI⟩ := hI
    obtain ⟨s21, hI⟩ := hI
    obtain ⟨s22, hI⟩ := hI
    obtain ⟨s23, hI⟩ := hI
    obtain ⟨s24, hI⟩ := hI
    obtain ⟨s25, hI⟩ := hI
    obtain ⟨s26, hI⟩ := hI
    obtain ⟨rfl, hI⟩ := hI
    obtain ⟨F0, hI⟩ := hI
    obtain ⟨F1, hI⟩ := hI
    obtain ⟨F2, hI⟩ := hI
    obtain ⟨F3, hI⟩ := hI
    obtain ⟨F4, hI⟩ := hI
    obtain ⟨F5, hI⟩ := hI
    obtain ⟨F6, hI⟩ := hI
    obtain ⟨F7, hI⟩ := hI
    obtain ⟨F8, hI⟩ := hI
    obtain ⟨F9, hI⟩ := hI
    obtain ⟨F10, hI⟩ := hI
    obtain ⟨F11, hI⟩ := hI
    obtain ⟨F12, hI⟩ := hI
    obtain ⟨F13, hI⟩ := hI
    obtain ⟨F14, hI⟩ := hI
    obtain ⟨F15, hI⟩ := hI
    obtain ⟨F16, hI⟩ := hI
    obtain ⟨F17, hI⟩ := hI
    obtain ⟨F18, hI⟩ := hI
    have F19 := hI; clear hI
    have hi' : i < 8 := hi
    clear hi
    rcases (by omega : i = 0 ∨ i = 1 ∨ i = 2 ∨ i = 3 ∨ i = 4 ∨ i = 5 ∨ i = 6 ∨ i = 7) with rfl | rfl | rfl | rfl | rfl | rfl | rfl | rfl
    · simp only [List.getElem?_toArray, List.getElem?_cons_zero, Option.some.injEq] at ho
      subst ho
      have hJ := ln hn F11
      refine wpOp_step rfl (fun K hK => ?_)
      go_simp
      refine hK _ _ ?_
      exact ⟨_, _, _, _, _, _, _, rfl, fun _ => rfl, fun h => F1 (ls (by decide) h), fun h => F2 (ls (by decide) h), fun h => F3 (ls (by decide) h), fun h => F4 (ls (by decide) h), fun h0 h => (F5 (lsf (by decide) h0) (ls (by decide) h)), fun h0 h => (F6 (lsf (by decide) h0) (ls (by decide) h)), fun h => lc hn (F11 (ls (by decide) h)), F8, fun h0 => (F9 (lsf (by decide) h0)), fun h0 => (F10 (lsf (by decide) h0)), fun _ => lself hn, fun h => la (F12 (ls (by decide) h)), fun h => la (F13 (ls (by decide) h)), fun h => la (F14 (ls (by decide) h)), fun h => la (F15 (ls (by decide) h)), fun h => la (F16 (ls (by decide) h)), fun h => la (F17 (ls (by decide) h)), fun h0 => F18 (lsf (by decide) h0), fun h => la (F19 (ls (by decide) h))⟩
    · simp only [List.getElem?_toArray, List.getElem?_cons_zero, List.getElem?_cons_succ, Option.some.injEq] at ho
      subst ho
      have hJ := ln hn F12
      obtain rfl := F0 (hd ⟨0, .data⟩ (by simp) rfl)
      have O'0 := F9 hJ; obtain ⟨_, _, _, _⟩ := id O'0
      have O'1 := F10 hJ; obtain ⟨_, _, _, _⟩ := id O'1
      refine wpOp_step rfl (fun K hK => ?_)
      go_simp
      refine hK _ _ ?_
      exact ⟨_, _, _, _, _, _, _, rfl, fun h => F0 (ls (by decide) h), fun _ => rfl, fun h => F2 (ls (by decide) h), fun h => F3 (ls (by decide) h), fun h => F4 (ls (by decide) h), fun h0 h => (F5 (lsf (by decide) h0) (ls (by decide) h)), fun h0 h => (F6 (lsf (by decide) h0) (ls (by decide) h)), fun h => lc hn (F12 (ls (by decide) h)), F8, fun h0 => (F9 (lsf (by decide) h0)), fun h0 => (F10 (lsf (by decide) h0)), fun h => la (F11 (ls (by decide) h)), fun _ => lself hn, fun h => la (F13 (ls (by decide) h)), fun h => la (F14 (ls (by decide) h)), fun h => la (F15 (ls (by decide) h)), fun h => la (F16 (ls (by decide) h)), fun h => la (F17 (ls (by decide) h)), fun h0 => F18 (lsf (by decide) h0), fun h => la (F19 (ls (by decide) h))⟩
    · simp only [List.getElem?_toArray, List.getElem?_cons_zero, List.getElem?_cons_succ, Option.some.injEq] at ho
      subst ho
      have hJ := ln hn F13
      refine wpOp_step rfl (fun K hK => ?_)
      go_simp
      refine hK _ _ ?_
      exact ⟨_, _, _, _, _, _, _, rfl, fun h => F0 (ls (by decide) h), fun h => F1 (ls (by decide) h), fun _ => rfl, fun h => F3 (ls (by decide) h), fun h => F4 (ls (by decide) h), fun h0 h => (F5 (lsf (by decide) h0) (ls (by decide) h)), fun h0 h => (F6 (lsf (by decide) h0) (ls (by decide) h)), fun h => lc hn (F13 (ls (by decide) h)), F8, fun h0 => (F9 (lsf (by decide) h0)), fun h0 => (F10 (lsf (by decide) h0)), fun h => la (F11 (ls (by decide) h)), fun h => la (F12 (ls (by decide) h)), fun _ => lself hn, fun h => la (F14 (ls (by decide) h)), fun h => la (F15 (ls (by decide) h)), fun h => la (F16 (ls (by decide) h)), fun h => la (F17 (ls (by decide) h)), fun h0 => F18 (lsf (by decide) h0), fun h => la (F19 (ls (by decide) h))⟩
    · simp only [List.getElem?_toArray, List.getElem?_cons_zero, List.getElem?_cons_succ, Option.some.injEq] at ho
      subst ho
      have hJ := ln hn F14
      refine wpOp_step rfl (fun K hK => ?_)
      go_simp
      refine hK _ _ ?_
      exact ⟨_, _, _, _, _, _, _, rfl, fun h => F0 (ls (by decide) h), fun h => F1 (ls (by decide) h), fun h => F2 (ls (by decide) h), fun _ => rfl, fun h => F4 (ls (by decide) h), fun h0 h => (F5 (lsf (by decide) h0) (ls (by decide) h)), fun h0 h => (F6 (lsf (by decide) h0) (ls (by decide) h)), fun h => lc hn (F14 (ls (by decide) h)), F8, fun h0 => (F9 (lsf (by decide) h0)), fun h0 => (F10 (lsf (by decide) h0)), fun h => la (F11 (ls (by decide) h)), fun h => la (F12 (ls (by decide) h)), fun h => la (F13 (ls (by decide) h)), fun _ => lself hn, fun h => la (F15 (ls (by decide) h)), fun h => la (F16 (ls (by decide) h)), fun h => la (F17 (ls (by decide) h)), fun h0 => F18 (lsf (by decide) h0), fun h => la (F19 (ls (by decide) h))⟩
    · simp only [List.getElem?_toArray, List.getElem?_cons_zero, List.getElem?_cons_succ, Option.some.injEq] at ho
      subst ho
      have hJ := ln hn F15
      obtain rfl := F3 (hd ⟨3, .data⟩ (by simp) rfl)
      have O'0 := F9 hJ; obtain ⟨_, _, _, _⟩ := id O'0
      have O'1 := F10 hJ; obtain ⟨_, _, _, _⟩ := id O'1
      refine wpOp_step rfl (fun K hK => ?_)
      go_simp
      refine hK _ _ ?_
      exact ⟨_, _, _, _, _, _, _, rfl, fun h => F0 (ls (by decide) h), fun h => F1 (ls (by decide) h), fun h => F2 (ls (by decide) h), fun h => F3 (ls (by decide) h), fun _ => rfl, fun h0 h => (F5 (lsf (by decide) h0) (ls (by decide) h)), fun h0 h => (F6 (lsf (by decide) h0) (ls (by decide) h)), fun h => lc hn (F15 (ls (by decide) h)), F8, fun h0 => (F9 (lsf (by decide) h0)), fun h0 => (F10 (lsf (by decide) h0)), fun h => la (F11 (ls (by decide) h)), fun h => la (F12 (ls (by decide) h)), fun h => la (F13 (ls (by decide) h)), fun h => la (F14 (ls (by decide) h)), fun _ => lself hn, fun h => la (F16 (ls (by decide) h)), fun h => la (F17 (ls (by decide) h)), fun h0 => F18 (lsf (by decide) h0), fun h => la (F19 (ls (by decide) h))⟩
    · simp only [List.getElem?_toArray, List.getElem?_cons_zero, List.getElem?_cons_succ, Option.some.injEq] at ho
      subst ho
      have hJ := ln hn F16
      obtain rfl := F2 (hd ⟨2, .data⟩ (by simp) rfl)
      obtain rfl := F4 (hd ⟨4, .data⟩ (by simp) rfl)
      have O'0 := F9 hJ; obtain ⟨_, _, _, _⟩ := id O'0
      have O'1 := F10 hJ; obtain ⟨_, _, _, _⟩ := id O'1
      have HX := F18 (lf hn)
      obtain ⟨i0, hi0, hz0, hz1, hz2⟩ := info_parts int_info
      refine wpOp_step rfl (fun K hK => ?_)
      obtain ⟨Bx, hRx⟩ := reads_of_rd w (HL.out.call F8)
      refine step_append_any _ rfl (.tmp 22) (.tmp 24) 32 rfl w0.heap.size 3 i0 _ 1 8 Tryd.underlying32 hi0 hz0 hz1 hz2 rfl (by omega) (.slice Pz n cz) n _ rfl HX Bx Pa l.length c (cellsD l) rfl hRx (cellsD_one l) (by unfold maxLen; omega) (by omega) F8.size ?_
      intro v3 w3 hown3 hg hat3
      have hres : RdF r w3 v3 := (by rw [← HR.out]; exact rdF_app hown3)
      have hnz : ∀ g, (.slice Pz n cz : Value).ownBlock = some g → w0.heap.size + 1 < g := HNZ.out
      have hlow : ∀ q, (.slice Pz n cz : Value).ownBlock = some q → w0.heap.size ≤ q := fun q hq => by have := hnz q hq; omega
      refine hK _ _ ?_
      exact ⟨_, _, _, _, _, _, _, rfl, fun h => F0 (ls (by decide) h), fun h => F1 (ls (by decide) h), fun h => F2 (ls (by decide) h), fun h => F3 (ls (by decide) h), fun h => F4 (ls (by decide) h), fun _ _ => hres, fun _ h => lc hn (F19 (ls (by decide) h)), fun h => lc hn (F16 (ls (by decide) h)), (below_far F8 hg hlow), fun h0 => own_grown (F9 (lsf (by decide) h0)) hg (fun e => by have := hnz _ e.symm; omega), fun h0 => own_grown (F10 (lsf (by decide) h0)) hg (fun e => by have := hnz _ e.symm; omega), fun h => la (F11 (ls (by decide) h)), fun h => la (F12 (ls (by decide) h)), fun h => la (F13 (ls (by decide) h)), fun h => la (F14 (ls (by decide) h)), fun h => la (F15 (ls (by decide) h)), fun _ => lself hn, fun h => la (F17 (ls (by decide) h)), fun h => _root_.Go.lx hn h, fun _ => lself hn⟩
    · simp only [List.getElem?_toArray, List.getElem?_cons_zero, List.getElem?_cons_succ, Option.some.injEq] at ho
      subst ho
      have hJ := ln hn F17
      obtain rfl := F1 (hd ⟨1, .data⟩ (by simp) rfl)
      obtain ⟨A9, c9, rfl, hrd, hl9, hc9⟩ := F5 hJ (hd ⟨5, .data⟩ (by simp) rfl)
      refine wpOp_step rfl (fun K hK => ?_)
      go_simp
      refine hK _ _ ?_
      exact ⟨_, _, _, _, _, _, _, rfl, fun h => F0 (ls (by decide) h), fun h => F1 (ls (by decide) h), fun h => F2 (ls (by decide) h), fun h => F3 (ls (by decide) h), fun h => F4 (ls (by decide) h), fun h0 h => (F5 (lsf (by decide) h0) (ls (by decide) h)), fun _ _ => ⟨A9, c9, rfl, hrd, hl9, hc9⟩, fun h => lc hn (F17 (ls (by decide) h)), F8, fun h0 => (F9 (lsf (by decide) h0)), fun h0 => (F10 (lsf (by decide) h0)), fun h => la (F11 (ls (by decide) h)), fun h => la (F12 (ls (by decide) h)), fun h => la (F13 (ls (by decide) h)), fun h => la (F14 (ls (by decide) h)), fun h => la (F15 (ls (by decide) h)), fun h => la (F16 (ls (by decide) h)), fun _ => lself hn, fun h0 => absurd (hd ⟨5, .data⟩ (by simp) rfl) (by rw [lsf (by decide) h0]; simp), fun _ => la (hd ⟨5, .data⟩ (by simp) rfl)⟩
    · simp only [List.getElem?_toArray, List.getElem?_cons_zero, List.getElem?_cons_succ, Option.some.injEq] at ho
      subst ho
      have hJ := lf hn
      obtain ⟨A9, c9, rfl, hrd, hl9, hc9⟩ := F6 hJ (hd ⟨6, .data⟩ (by simp) rfl)
      have O'0 := F9 hJ; obtain ⟨_, _, _, _⟩ := id O'0
      have O'1 := F10 hJ; obtain ⟨_, _, _, _⟩ := id O'1
      have K9 := O'1
      refine wpOp_step rfl (fun K hK => ?_)
      go_simp
      refine hK _ _ ?_
      exact ⟨_, _, _, _, _, _, _, rfl, fun h => F0 (ls (by decide) h), fun h => F1 (ls (by decide) h), fun h => F2 (ls (by decide) h), fun h => F3 (ls (by decide) h), fun h => F4 (ls (by decide) h), fun h => _root_.Go.lx hn h, fun h => _root_.Go.lx hn h, fun _ => ⟨_, _, K9.store _ _, rd_store hrd K9 _ _, hl9, hc9⟩, (bs (bs F8 (by first | (simp; done) | (simp; omega))) (by first | (simp; done) | (simp; omega))), fun h => _root_.Go.lx hn h, fun h => _root_.Go.lx hn h, fun _ => la (hd ⟨0, .phase⟩ (by simp) rfl), fun _ => la (hd ⟨1, .phase⟩ (by simp) rfl), fun _ => la (hd ⟨2, .phase⟩ (by simp) rfl), fun _ => la (hd ⟨3, .phase⟩ (by simp) rfl), fun _ => la (hd ⟨4, .phase⟩ (by simp) rfl), fun _ => la (hd ⟨5, .phase⟩ (by simp) rfl), fun _ => la (hd ⟨6, .phase⟩ (by simp) rfl), fun h0 => absurd (hd ⟨5, .chain⟩ (by simp) rfl) (by rw [lsf (by decide) h0]; simp), fun h => la (F19 (ls (by decide) h))⟩
  · intro listed A w hall hI
    unfold Up8I at hI
    obtain ⟨s20, hI⟩ := hI
    obtain ⟨s21, hI⟩ := hI
    obtain ⟨s22, hI⟩ := hI
    obtain ⟨s23, hI⟩ := hI
    obtain ⟨s24, hI⟩ := hI
    obtain ⟨s25, hI⟩ := hI
    obtain ⟨s26, hI⟩ := hI
    obtain ⟨rfl, hI⟩ := hI
    obtain ⟨F0, hI⟩ := hI
    obtain ⟨F1, hI⟩ := hI
    obtain ⟨F2, hI⟩ := hI
    obtain ⟨F3, hI⟩ := hI
    obtain ⟨F4, hI⟩ := hI
    obtain ⟨F5, hI⟩ := hI
    obtain ⟨F6, hI⟩ := hI
    obtain ⟨F7, hI⟩ := hI
    obtain ⟨F8, hI⟩ := hI
    obtain ⟨F9, hI⟩ := hI
    obtain ⟨F10, hI⟩ := hI
    obtain ⟨F11, hI⟩ := hI
    obtain ⟨F12, hI⟩ := hI
    obtain ⟨F13, hI⟩ := hI
    obtain ⟨F14, hI⟩ := hI
    obtain ⟨F15, hI⟩ := hI
    obtain ⟨F16, hI⟩ := hI
    obtain ⟨F17, hI⟩ := hI
    obtain ⟨F18, hI⟩ := hI
    have F19 := hI; clear hI
    obtain rfl := F0 (hall 0 (by decide))
    obtain rfl := F1 (hall 1 (by decide))
    obtain rfl := F2 (hall 2 (by decide))
    obtain rfl := F3 (hall 3 (by decide))
    obtain rfl := F4 (hall 4 (by decide))
    have PJ := F7 (hall 7 (by decide))
    have HB := F8
    clear hall F5 F6 F7 F8 F9 F10 F11 F12 F13 F14 F15 F16 F17 F18 F19
    try dsimp only

    exact hQ _ _ _ PJ HB
end Go.Proofs
namespace Go.Proofs
open Go.Shelf Go.RowKit Go.Proofs.Wide Go.Proofs.Dig
def upL (l : List Int) (n : Nat) : List Int := if l = [] then [] else List.replicate n 0 ++ l
def UpI (neg : Bool) (A : Option Addr) (l : List Int) (c n : Nat) (w0 : World) (s5 s6 : Value) (wx : World) : Prop := ∃ (j : Nat) (Z : Option Addr) (cz : Nat), s5 = .slice Z j cz ∧ s6 = .int .i64 j ∧ j ≤ n ∧
  wx.ownsRow w0.heap.size 3 1 (.slice Z j cz) j (cellsD (List.replicate j 0)) ∧ Hid (∀ g, (.slice Z j cz : Value).ownBlock = some g → w0.heap.size + 1 < g) ∧
  Own wx w0.heap.size (.bool neg) (.slice A l.length c) ∧ Own wx (w0.heap.size + 1) (.bool false) (.slice none 0 0) ∧ Below w0.heap.size w0 wx
theorem nought_step (j : Nat) : cellsD (List.replicate j 0) ++ [.int .i64 0] = cellsD (List.replicate (j + 1) 0) := by
  unfold cellsD; rw [List.replicate_succ', List.map_append]; rfl
set_option maxRecDepth 100000 in
set_option maxHeartbeats 4000000 in
theorem refUp_any (neg : Bool) (A : Option Addr) (l : List Int) (c n : Nat) (w0 : World) (hr : Rd w0 A l) (hlc : l.length ≤ c) (hc : c ≤ 9223372036854775807) (hl6 : l.length ≤ 1000000) (hn6 : n ≤ 1000000) :
    Calls Tryd.prog 50 #[.agg #[.bool neg, .slice A l.length c], .int .i64 n] w0 fun e w' => ∃ v, e = .returned v ∧ OfF neg (upL l n) w' v ∧ Below w0.heap.size w0 w' := by
  have HR := Lib.hid hr
  clear hr
  by_cases hl : l = []
  · subst hl
    have hU : upL [] n = [] := rfl
    rw [hU]
    clear hU
    go_enter Tryd.func50, Tryd.ntmps50
    go_wp2
    exact bodyPost_ret (v := .agg #[.bool neg, .slice A 0 c]) (by simp [results, Tryd.results50, go_sem, *]) rfl ⟨_, rfl, ⟨A, c, rfl, Rd.nil, hlc, hc⟩, by repeat (first | exact Below.refl _ _ | apply ba | (refine bs ?_ (by first | (simp; done) | (simp; omega))))⟩
  · obtain ⟨r, hr⟩ : ∃ r, List.replicate n 0 ++ l = r := ⟨_, rfl⟩
    have hU : upL l n = r := by unfold upL; rw [if_neg hl, hr]
    rw [hU]
    have HRR := Lib.hid hr
    have hl0 : ((l.length : Int) == 0) = false := by
      rw [beq_eq_false_iff_ne]; intro e; exact hl (List.eq_nil_of_length_eq_zero (by omega))
    have hl1 : (l.length == 0) = false := by
      rw [beq_eq_false_iff_ne]; intro e; exact hl (List.eq_nil_of_length_eq_zero e)
    have hlp : 0 < l.length := by
      rcases Nat.eq_zero_or_pos l.length with e | e
      · exact absurd (List.eq_nil_of_length_eq_zero e) hl
      · exact e
    obtain ⟨i0, hi, hz0, hz1, hz2⟩ := info_parts int_info
    clear hU hr
    go_enter Tryd.func50, Tryd.ntmps50
    go_wp2_with fail
    go_loopw [5, 6] (fun s5 s6 wx => UpI neg A l c n w0 s5 s6 wx) (fun _ s6 _ => n - (intOf s6).toNat)
    case atStart => exact ⟨0, none, 0, rfl, rfl, Nat.zero_le _, ⟨rfl, .inl ⟨rfl, rfl⟩⟩, Lib.hid (fun g h => by simp [Value.ownBlock] at h), (Own.new_at rfl).alloc _, Own.new_at (by simp), ba (ba (Below.refl _ _))⟩
    case round =>
      obtain ⟨j, Z, cz, rfl, rfl, hj, hown, hnz, O0, O1, HB⟩ := hrel
      by_cases hlt : j < n
      · have hltJ : decide ((j : Int) < (n : Int)) = true := by simp; omega
        have hbs := HB.size
        go_wp2_with (at_builtin; refine wpList_append_any _ rfl (.tmp 17) (.tmp 18) 32 rfl w0.heap.size 3 i0 _ 1 8 Tryd.underlying32 hi hz0 hz1 hz2 rfl (by omega) (.slice Z j cz) j _ rfl (hown.alloc _) _ _ 1 1 [.int .i64 0] rfl (one_reads wr 0) (by intro u hu; simp at hu; subst hu; rfl) (by unfold maxLen; omega) (by omega) (by simp; omega) ?_; intro v3 w3 hown3 hg3 hat3; have P0 := own_grown (O0.alloc _) hg3 (fun e => by have := hnz.out _ e.symm; omega); have P1 := own_grown (O1.alloc _) hg3 (fun e => by have := hnz.out _ e.symm; omega); have hb3 : Below w0.heap.size w0 w3 := below_far (ba HB) hg3 (fun q hq => by have := hnz.out _ hq; omega); obtain ⟨A3, c3, rfl⟩ := own_slice hown3; have l1 := O1.lt; have hnz3 : Hid (∀ g, (.slice A3 (j + 1) c3 : Value).ownBlock = some g → w0.heap.size + 1 < g) := Lib.hid (fun g h => hat3.elim (fun e => hnz.out g (e.symm.trans h)) (fun e => by rw [e] at h; injection h with h; simp at h; omega)); rw [nought_step] at hown3; have HO3 := Lib.hid hown3; clear hown3 hg3 hat3)
        go_roundw
        case rel => exact ⟨j + 1, A3, c3, rfl, by go_num, by omega, HO3.out, hnz3, P0, P1, hb3⟩
        case measure => simp [intOf]; omega
      · obtain rfl : j = n := by omega
        have hltJ : decide ((j : Int) < (j : Int)) = false := by simp
        go_upto_region 8 with fail
        refine Up8_region neg A Z l r j c cz _ _ _ _ _ _ _ _ _ _ _ _ _ _ _ _ _ _ _ _ _ _ _ _ w0 _ _ HB O0 O1 HRR HR hl6 hn6 hown hnz ?_
        intro w' y25 y26 PJ HB'
        obtain ⟨A9, c9, K9, hr9, hl9, hc9⟩ := PJ
        obtain ⟨_, _, _, _⟩ := id K9
        go_wp2
        exact bodyPost_ret (v := .agg #[.bool neg, .slice A9 r.length c9]) (by simp [results, Tryd.results50, go_sem, *]) rfl ⟨_, rfl, ⟨A9, c9, rfl, hr9, hl9, hc9⟩, HB'⟩
end Go.Proofs
namespace Go.Proofs
open Go.Shelf Go.RowKit Go.Proofs.Wide Go.Proofs.Dig
theorem pow10_le {m n : Nat} (h : m ≤ n) : (10 : Int) ^ m ≤ 10 ^ n := by
  obtain ⟨e, rfl⟩ : ∃ e, n = m + e := ⟨n - m, by omega⟩
  rw [Int.pow_add]
  have h1 := p10 m; have h2 := p10 e
  have := Int.mul_le_mul_of_nonneg_left (by omega : (1 : Int) ≤ 10 ^ e) (by omega : (0 : Int) ≤ 10 ^ m)
  omega
theorem digs_len_lt {u m : Nat} (h : (u : Int) < 10 ^ m) : (digs u).length ≤ m := by
  by_cases h0 : u = 0
  · subst h0; rw [digs_zero]; simp
  · have h1 := (digs_val u).2.2 h0
    rw [(digs_val u).1] at h1
    rcases Nat.lt_or_ge m (digs u).length with h2 | h2
    · have := pow10_le (show m ≤ (digs u).length - 1 by omega); omega
    · exact h2
theorem upL_spec (b : List Int) (i : Nat) (hb : Canon b) : Canon (upL b i) ∧ val (upL b i) = 10 ^ i * val b ∧ (upL b i).length ≤ i + b.length := by
  unfold upL
  by_cases h : b = []
  · rw [if_pos h]; subst h; exact ⟨⟨(fun d hd => by cases hd), .inl rfl⟩, by simp [val], by simp⟩
  · rw [if_neg h]
    have hv : val (List.replicate i 0 ++ b) = 10 ^ i * val b := by rw [val_append, val_zeros, List.length_replicate]; omega
    refine ⟨⟨isDig_append (isDig_zeros i) hb.1, .inr ?_⟩, hv, by simp⟩
    rw [hv, List.length_append, List.length_replicate]
    rcases hb.2 with e | e
    · exact absurd e h
    · have hl : 0 < b.length := by
        rcases Nat.eq_zero_or_pos b.length with e | e
        · exact absurd (List.eq_nil_of_length_eq_zero e) h
        · exact e
      rw [show i + b.length - 1 = i + (b.length - 1) by omega, Int.pow_add]
      exact Int.mul_le_mul_of_nonneg_left e (by have := p10 i; omega)
def SumF (x : Int) (w : World) (s : Value) : Prop := RdF (digs x.toNat) w s
theorem sum_zero (w : World) : SumF 0 w (.slice none 0 0) := by
  unfold SumF
  rw [show (0 : Int).toNat = 0 from rfl, digs_zero]
  exact ⟨none, 0, rfl, Rd.nil, Nat.le_refl _, by decide⟩
theorem SumF.call {x : Int} {w w' : World} {s : Value} (h : SumF x w s) (hb : Below w.heap.size w w') : SumF x w' s := RdF.call h hb
def MulI (na nb : Bool) (A B : Option Addr) (a b : List Int) (ca cb : Nat) (w0 : World) (s5 s6 : Value) (wx : World) : Prop := ∃ i : Nat, s6 = .int .i64 i ∧ i ≤ a.length ∧ SumF (val (a.take i) * val b) wx s5 ∧
  Own wx w0.heap.size (.bool na) (.slice A a.length ca) ∧ Own wx (w0.heap.size + 1) (.bool nb) (.slice B b.length cb) ∧ Own wx (w0.heap.size + 1 + 1) (.bool false) (.slice none 0 0) ∧ Below w0.heap.size w0 wx
def MulK (na nb : Bool) (A B : Option Addr) (a b : List Int) (ca cb i g7 : Nat) (C7 : Option Addr) (c7 : Nat) (w0 : World) (s5 s8 : Value) (wx : World) : Prop := ∃ k : Nat, s8 = .int .i64 k ∧ (k : Int) ≤ a.getD i 0 ∧ SumF ((val (a.take i) + 10 ^ i * k) * val b) wx s5 ∧
  Own wx g7 (.bool false) (.slice C7 (upL b i).length c7) ∧ Rd wx C7 (upL b i) ∧
  Own wx w0.heap.size (.bool na) (.slice A a.length ca) ∧ Own wx (w0.heap.size + 1) (.bool nb) (.slice B b.length cb) ∧ Own wx (w0.heap.size + 1 + 1) (.bool false) (.slice none 0 0) ∧ Below w0.heap.size w0 wx
theorem mul_step (x y : Int) (i : Nat) (k : Int) (v : Int) (h : v = 10 ^ i * y) : (x + 10 ^ i * k) * y + v = (x + 10 ^ i * (k + 1)) * y := by
  subst h; rw [Int.mul_add, Int.mul_one, ← Int.add_assoc, Int.add_mul (x + 10 ^ i * k)]
set_option maxRecDepth 100000 in
set_option maxHeartbeats 8000000 in
theorem refMul_any (na nb : Bool) (A B : Option Addr) (a b : List Int) (ca cb : Nat) (w0 : World) (ha : Canon a) (hb : Canon b) (hra : Rd w0 A a) (hrb : Rd w0 B b) (hla : a.length ≤ ca) (_hca : ca ≤ 9223372036854775807) (hlb : b.length ≤ cb) (hcb : cb ≤ 9223372036854775807) (ha6 : a.length ≤ 1000) (hb6 : b.length ≤ 1000) :
    Calls Tryd.prog 52 #[.agg #[.bool na, .slice A a.length ca], .agg #[.bool nb, .slice B b.length cb]] w0 fun e w' => ∃ v, e = .returned v ∧ OfF (na != nb) (digs (val a * val b).toNat) w' v ∧ Below w0.heap.size w0 w' := by
  have Ha := Lib.hid hra; have Hb := Lib.hid hrb
  have HCa := Lib.hid ha; have HCb := Lib.hid hb
  have hva := val_nonneg a ha.1; have hvb := val_nonneg b hb.1
  clear hra hrb ha hb
  go_enter Tryd.func52, Tryd.ntmps52
  go_wp2_with fail
  go_loopw [5, 6] (fun s5 s6 wx => MulI na nb A B a b ca cb w0 s5 s6 wx) (fun _ s6 _ => a.length - (intOf s6).toNat)
  case atStart =>
    refine ⟨0, rfl, Nat.zero_le _, ?_, ((Own.new_at rfl).alloc _).alloc _, (Own.new_at (by simp)).alloc _, Own.new_at (by simp), ba (ba (ba (Below.refl _ _)))⟩
    have e : val (a.take 0) * val b = 0 := by rw [List.take_zero]; simp [val]
    rw [e]; exact sum_zero _
  case round =>
    obtain ⟨i, rfl, hi, hsum, O0, O1, O2, HB⟩ := hrel
    by_cases hlt : i < a.length
    · have hltJ : decide ((i : Int) < (a.length : Int)) = true := by simp; omega
      obtain ⟨u1, u2, u3⟩ := upL_spec b i HCb.out
      obtain ⟨Z, cz, rfl, hz, hzl, hzc⟩ := hsum
      have hU := refUp_any false B b cb i
      have HU := Lib.hid hU; have HZ := Lib.hid hz; have HU1 := Lib.hid u1; have HU2 := Lib.hid u2
      clear hU hz u1 u2
      have O0' := Lib.hid O0; have O1' := Lib.hid O1; have O2' := Lib.hid O2
      obtain ⟨_, _, _, _⟩ := O0; obtain ⟨_, _, _, _⟩ := O1
      go_wp2_with (go_at_call 50; refine (HU.out _ (Hb.out.call HB) hlb hcb (by omega) (by omega)).mono ?_; rintro e w1 ⟨v, rfl, hof, hb1⟩; obtain ⟨C7, c7, rfl, hr7, hl7, hc7⟩ := hof; have Q0 := O0'.out.call hb1; have Q1 := O1'.out.call hb1; have Q2 := O2'.out.call hb1; have HB1 := bt HB hb1; have hz1 := HZ.out.call hb1)
      have e0 : val (a.take i) * val b = (val (a.take i) + 10 ^ i * ((0 : Nat) : Int)) * val b := by simp
      go_loopw [5, 8] (fun s5 s8 wx => MulK na nb A B a b ca cb i w1.heap.size C7 c7 w0 s5 s8 wx) (fun _ s8 _ => ((a.getD i 0) - intOf s8).toNat)
      case atStart =>
        have hdi : 0 ≤ a.getD i 0 := by
          rw [List.getD_eq_getElem?_getD, List.getElem?_eq_getElem hlt]; exact (HCa.out.1 _ (List.getElem_mem hlt)).1
        refine ⟨0, rfl, by simpa using hdi, ?_, Own.new_at rfl, hr7.call (ba (Below.refl _ _)), Q0.alloc _, Q1.alloc _, Q2.alloc _, ba HB1⟩
        rw [← e0]
        exact ⟨Z, cz, rfl, hz1.call (ba (Below.refl _ _)), hzl, hzc⟩
      case round =>
        obtain ⟨k, rfl, hk, hsum, O7, hr7', P0, P1, P2, HB2⟩ := hrel
        obtain ⟨Y, cy, rfl, hy, hyl, hyc⟩ := hsum
        obtain ⟨ad, rfl, hcell⟩ := (Ha.out.call HB2) (by intro e; subst e; simp at hlt)
        have hx := hcell i _ (List.getElem?_eq_getElem hlt)
        have hgd : a.getD i 0 = a[i] := by rw [List.getD_eq_getElem?_getD, List.getElem?_eq_getElem hlt]; rfl
        obtain ⟨d, hd⟩ : ∃ d, a[i] = d := ⟨_, rfl⟩
        rw [hd] at hx hgd
        rw [hgd] at hk
        have hd9 : 0 ≤ d ∧ d ≤ 9 := by rw [← hd]; exact HCa.out.1 _ (List.getElem_mem hlt)
        have htv := take_val a i
        rw [hgd] at htv
        have hvt := val_nonneg (a.take i) (isDig_take HCa.out.1 i)
        have HGD := Lib.hid hgd; have HTV := Lib.hid htv
        clear hcell hd hgd htv
        have hp10 := p10 i
        have hkn : 0 ≤ (10 : Int) ^ i * k := Int.mul_nonneg (by omega) (by omega)
        have hV0 : 0 ≤ (val (a.take i) + 10 ^ i * k) * val b := Int.mul_nonneg (by omega) hvb
        have hVl : (digs ((val (a.take i) + 10 ^ i * k) * val b).toNat).length ≤ 1000000 := by
          have h1 : val (a.take i) + 10 ^ i * k ≤ val (a.take (i + 1)) := by
            rw [HTV.out]; have := Int.mul_le_mul_of_nonneg_left hk (by omega : (0 : Int) ≤ 10 ^ i); omega
          have h2 := val_lt (a.take (i + 1)) (isDig_take HCa.out.1 _)
          have h3 := val_lt b HCb.out.1
          rw [List.length_take] at h2
          have h4 : (val (a.take i) + 10 ^ i * k) * val b ≤ 10 ^ (min (i + 1) a.length) * 10 ^ b.length := by
            refine Int.le_trans (Int.mul_le_mul_of_nonneg_right (by omega : _ ≤ (10 : Int) ^ (min (i + 1) a.length)) hvb) ?_
            exact Int.mul_le_mul_of_nonneg_left (by omega) (by have := p10 (min (i + 1) a.length); omega)
          rw [← Int.pow_add] at h4
          have h5 := pow10_le (show min (i + 1) a.length + b.length ≤ 2000 by omega)
          have h6 : (10 : Int) ^ 2000 < 10 ^ 2001 := by rw [Int.pow_succ]; have := p10 2000; omega
          have := digs_len_lt (u := ((val (a.take i) + 10 ^ i * k) * val b).toNat) (m := 2001) (by rw [Int.toNat_of_nonneg hV0]; omega)
          omega
        have P0' := Lib.hid P0; have P1' := Lib.hid P1; have P2' := Lib.hid P2; have O7' := Lib.hid O7
        by_cases hkd : (k : Int) < d
        · have hkJ : decide ((k : Int) < d) = true := by simpa using hkd
          have hG := plus_g (digs ((val (a.take i) + 10 ^ i * k) * val b).toNat) (upL b i) (digs_canon _) HU1.out hVl (by omega)
          have hE : (val (digs ((val (a.take i) + 10 ^ i * k) * val b).toNat) + val (upL b i)) = (val (a.take i) + 10 ^ i * ((k + 1 : Nat) : Int)) * val b := by
            rw [(digs_val _).1, Int.toNat_of_nonneg hV0, mul_step _ _ _ _ _ HU2.out]; simp
          rw [hE] at hG
          have HG := Lib.hid hG; have HY := Lib.hid hy; have HR7 := Lib.hid hr7'
          obtain ⟨_, _, _, _⟩ := P0; obtain ⟨_, _, _, _⟩ := O7
          clear hG hE hy hr7' hVl hV0 hkn
          go_wp2_with (go_at_call 74; refine (HG.out wr _ _ _ _ HY.out HR7.out hyl hl7).mono ?_; rintro e w5 ⟨v5, rfl, hof5, hb5⟩)
          go_roundw
          case rel => exact ⟨k + 1, by go_num, by rw [HGD.out]; omega, hof5, O7'.out.call hb5, HR7.out.call hb5, P0'.out.call hb5, P1'.out.call hb5, P2'.out.call hb5, bt HB2 hb5⟩
          case measure => rw [HGD.out]; simp [intOf]; omega
        · have hkJ : decide ((k : Int) < d) = false := by simpa using hkd
          obtain ⟨_, _, _, _⟩ := P0
          have hkd2 : (k : Int) = d := by omega
          have hE : val (a.take (i + 1)) * val b = (val (a.take i) + 10 ^ i * k) * val b := by rw [HTV.out, hkd2]
          have HE := Lib.hid hE; have HY := Lib.hid hy
          clear hE hy hVl hV0 hkn hkd2
          go_wp2
          refine ⟨⟨i + 1, by go_num, by omega, ?_, P0'.out, P1'.out, P2'.out, HB2⟩, by simp [intOf]; omega⟩
          rw [HE.out]
          exact ⟨Y, cy, rfl, HY.out, hyl, hyc⟩
    · obtain rfl : i = a.length := by omega
      rw [List.take_length] at hsum
      obtain ⟨Z, cz, rfl, hz, hzl, hzc⟩ := hsum
      have hltJ : decide ((a.length : Int) < (a.length : Int)) = false := by simp
      have O2' := Lib.hid O2; have HZ := Lib.hid hz
      obtain ⟨_, _, _, _⟩ := O0; obtain ⟨_, _, _, _⟩ := O1; obtain ⟨_, _, _, _⟩ := O2
      clear hz
      go_wp2
      have K9 := O2'.out.store (.bool (na != nb)) (.slice Z (digs (val a * val b).toNat).length cz)
      obtain ⟨_, _, _, _⟩ := id K9
      exact bodyPost_ret (v := .agg #[.bool (na != nb), .slice Z (digs (val a * val b).toNat).length cz]) (by simp [results, Tryd.results52, go_sem, *]; cases na <;> cases nb <;> rfl) rfl ⟨_, rfl, ⟨Z, cz, rfl, rd_store HZ.out O2'.out _ _, hzl, hzc⟩, bs (bs HB (by simp; omega)) (by simp; omega)⟩
end Go.Proofs
namespace Go.Proofs
open Go.Shelf Go.RowKit Go.Proofs.Wide Go.Proofs.Dig
/-- One digit more of the quotient. -/
theorem div_step (V d y : Int) (_hV : 0 ≤ V) (_hd : 0 ≤ d) (hy : 0 < y) : (d + 10 * V) / y = 10 * (V / y) + (d + 10 * (V % y)) / y ∧ (d + 10 * V) % y = (d + 10 * (V % y)) % y := by
  have e := Int.mul_ediv_add_emod V y
  have e2 : d + 10 * V = (d + 10 * (V % y)) + y * (10 * (V / y)) := by
    conv => lhs; rw [← e]
    rw [Int.mul_add, Int.mul_left_comm]; omega
  constructor
  · rw [e2, Int.add_mul_ediv_left _ _ (by omega)]; omega
  · rw [e2, Int.add_mul_emod_self_left]
/-- The row of the quotient's digits so far: it is the call's own. -/
def QuF (Q : List Int) (w : World) (s : Value) : Prop := RdF Q w s
def DivI (na nb : Bool) (A B : Option Addr) (a b : List Int) (ca cb : Nat) (w0 : World) (s6 s7 s8 : Value) (wx : World) : Prop := ∃ (m : Nat) (Q : List Int), s8 = .int .i64 ((m : Int) - 1) ∧ m ≤ a.length ∧
  SumF (val (a.drop m) % val b) wx s7 ∧ RdF Q wx s6 ∧ isDig Q ∧ Q.length = a.length - m ∧ val Q = val (a.drop m) / val b ∧
  Own wx w0.heap.size (.bool na) (.slice A a.length ca) ∧ Own wx (w0.heap.size + 1) (.bool nb) (.slice B b.length cb) ∧ Own wx (w0.heap.size + 1 + 1) (.bool false) (.slice none 0 0) ∧ Own wx (w0.heap.size + 1 + 1 + 1) (.bool false) (.slice none 0 0) ∧ Below w0.heap.size w0 wx
def DivK (na nb : Bool) (A B : Option Addr) (a b : List Int) (ca cb : Nat) (X : Int) (S6 : Value) (Q : List Int) (w0 : World) (s7 s9 : Value) (wx : World) : Prop := ∃ n : Nat, s9 = .int .i64 n ∧ (n : Int) ≤ 9 ∧ 0 ≤ X - n * val b ∧
  SumF (X - n * val b) wx s7 ∧ RdF Q wx S6 ∧
  Own wx w0.heap.size (.bool na) (.slice A a.length ca) ∧ Own wx (w0.heap.size + 1) (.bool nb) (.slice B b.length cb) ∧ Own wx (w0.heap.size + 1 + 1) (.bool false) (.slice none 0 0) ∧ Own wx (w0.heap.size + 1 + 1 + 1) (.bool false) (.slice none 0 0) ∧ Below w0.heap.size w0 wx
theorem RdF.nil (w : World) : RdF [] w (.slice none 0 0) := ⟨none, 0, rfl, Rd.nil, Nat.le_refl _, by decide⟩
theorem trim_cons {d : Int} {l : List Int} (hd : 0 ≤ d ∧ d ≤ 9) (hl : Canon l) : trimL (d :: l) = digs (d + 10 * val l).toNat := by
  have hdig : isDig (d :: l) := by intro x hx; rcases List.mem_cons.1 hx with rfl | h; exact hd; exact hl.1 x h
  have h := trim_spec (d :: l) hdig
  have hv : val (d :: l) = d + 10 * val l := by simp [val]
  rw [canon_digs h.1, h.2.1, hv]
theorem own_one (w : World) (B : Nat) (d : Int) (hB : B ≤ w.heap.size) : (w.alloc (.cells #[.int .i64 d] 3)).ownsRow B 3 1 (.slice (some ⟨w.heap.size, 0, none⟩) 1 1) 1 [.int .i64 d] :=
  ⟨rfl, .inr ⟨w.heap.size, 1, #[.int .i64 d], rfl, hB, heap_alloc_new w _, Nat.le_refl _, by decide, rfl, rfl⟩⟩
/-- One digit put ahead of a row. -/
theorem rdF_cons {w : World} {B : Nat} {v : Value} {d : Int} {l : List Int} (h : w.ownsRow B 3 1 v (1 + l.length) ([.int .i64 d] ++ cellsD l)) : RdF (d :: l) w v := by
  obtain ⟨A, c, rfl⟩ := own_slice h
  have e : [Value.int .i64 d] ++ cellsD l = cellsD (d :: l) := rfl
  rw [e] at h
  have hl : 1 + l.length = (d :: l).length := by simp; omega
  obtain ⟨hr, h1, h2⟩ := rd_of_row h hl
  rw [hl] at h1 ⊢
  exact ⟨A, c, rfl, hr, h1, h2⟩
end Go.Proofs
namespace Go.Proofs
open Go.Shelf Go.RowKit Go.Proofs.Wide Go.Proofs.Dig
def D12I (w0 : World) (na nb : Bool) (Pa Pb Pq Pr : Option Addr) (la lb nq tq nr ca cb cq cr : Nat) (Q R : List Int) (c0 c1 c8 c9 c10 c11 c12 c13 c14 c15 c16 c17 c18 c19 c20 c21 c22 c23 c24 c25 c26 c27 c28 c29 c30 c31 c32 c33 c34 c35 c36 c37 c38 c39 c40 c41 : Value) (listed : Array Bool) (A : Act) (w : World) : Prop := ∃ (s42 s43 s44 s45 s46 s47 s48 s49 s50 s51 s52 s53 : Value), A = { tmps := #[c0, c1, .pointer (some ⟨w0.heap.size, 0, none⟩), .pointer (some ⟨w0.heap.size + 1, 0, none⟩), .pointer (some ⟨w0.heap.size + 1 + 1, 0, none⟩), .pointer (some ⟨w0.heap.size + 1 + 1 + 1, 0, none⟩), .slice Pq nq cq, .slice Pr nr cr, c8, c9, c10, c11, c12, c13, c14, c15, c16, c17, c18, c19, c20, c21, c22, c23, c24, c25, c26, c27, c28, c29, c30, c31, c32, c33, c34, c35, c36, c37, c38, c39, c40, c41, s42, s43, s44, s45, s46, s47, s48, s49, s50, s51, s52, s53], defers := [] } ∧
  (listed.getD 0 false = true → s42 = .pointer (some ⟨w0.heap.size, 0, none⟩)) ∧
  (listed.getD 1 false = true → s43 = .bool na) ∧
  (listed.getD 2 false = true → s44 = .pointer (some ⟨w0.heap.size + 1, 0, none⟩)) ∧
  (listed.getD 3 false = true → s45 = .bool nb) ∧
  (listed.getD 4 false = true → s46 = .bool (na != nb)) ∧
  (listed.getD 5 false = true → s47 = .slice Pq nq cq) ∧
  (listed.getD 6 false = true → s48 = .slice Pq tq cq) ∧
  (listed.getD 7 false = true → s49 = .agg #[.bool (na != nb), .slice Pq tq cq]) ∧
  (listed.getD 8 false = true → s50 = .pointer (some ⟨w0.heap.size, 0, none⟩)) ∧
  (listed.getD 9 false = true → s51 = .bool na) ∧
  (listed.getD 10 false = true → s52 = .slice Pr nr cr) ∧
  (listed.getD 11 false = true → s53 = .agg #[.bool na, .slice Pr nr cr]) ∧
  (listed.getD 12 false = true → Own w (w0.heap.size + 1 + 1) (.bool (na != nb)) (.slice Pq tq cq)) ∧
  (listed.getD 13 false = true → Own w (w0.heap.size + 1 + 1 + 1) (.bool na) (.slice Pr nr cr)) ∧
  Below w0.heap.size w0 w ∧
  Own w (w0.heap.size) (.bool na) (.slice Pa la ca) ∧
  Own w (w0.heap.size + 1) (.bool nb) (.slice Pb lb cb) ∧
  (listed.getD 12 false = false → Own w (w0.heap.size + 1 + 1) (.bool false) (.slice none 0 0)) ∧
  (listed.getD 13 false = false → Own w (w0.heap.size + 1 + 1 + 1) (.bool false) (.slice none 0 0)) ∧
  Rd w Pq Q ∧
  Rd w Pr R

set_option maxRecDepth 100000 in
set_option maxHeartbeats 16000000 in
theorem div_region (na nb : Bool) (Pa Pb Pq Pr : Option Addr) (la lb nq tq nr ca cb cq cr : Nat) (Q R : List Int) (x42 x43 x44 x45 x46 x47 x48 x49 x50 x51 x52 x53 : Value) (c0 c1 c8 c9 c10 c11 c12 c13 c14 c15 c16 c17 c18 c19 c20 c21 c22 c23 c24 c25 c26 c27 c28 c29 c30 c31 c32 c33 c34 c35 c36 c37 c38 c39 c40 c41 : Value) (w0 W : World) (Q0 : Exit → Act → World → Prop) (hb0 : Below w0.heap.size w0 W)
    (A0 : Own W (w0.heap.size) (.bool na) (.slice Pa la ca)) (A1 : Own W (w0.heap.size + 1) (.bool nb) (.slice Pb lb cb)) (A2 : Own W (w0.heap.size + 1 + 1) (.bool false) (.slice none 0 0)) (A3 : Own W (w0.heap.size + 1 + 1 + 1) (.bool false) (.slice none 0 0))
    (HQ0 : Rd W Pq Q) (HR0 : Rd W Pr R) (HTr : Hid (∀ w : World, Rd w Pq Q → Calls Tryd.prog 34 #[.slice Pq nq cq] w fun e w' => e = .returned (.slice Pq tq cq) ∧ w = w'))
    (hQ : ∀ w, Own w (w0.heap.size + 1 + 1) (.bool (na != nb)) (.slice Pq tq cq) → Own w (w0.heap.size + 1 + 1 + 1) (.bool na) (.slice Pr nr cr) → Rd w Pq Q → Rd w Pr R → Below w0.heap.size w0 w → Q0 .normal { tmps := #[c0, c1, .pointer (some ⟨w0.heap.size, 0, none⟩), .pointer (some ⟨w0.heap.size + 1, 0, none⟩), .pointer (some ⟨w0.heap.size + 1 + 1, 0, none⟩), .pointer (some ⟨w0.heap.size + 1 + 1 + 1, 0, none⟩), .slice Pq nq cq, .slice Pr nr cr, c8, c9, c10, c11, c12, c13, c14, c15, c16, c17, c18, c19, c20, c21, c22, c23, c24, c25, c26, c27, c28, c29, c30, c31, c32, c33, c34, c35, c36, c37, c38, c39, c40, c41, .pointer (some ⟨w0.heap.size, 0, none⟩), .bool na, .pointer (some ⟨w0.heap.size + 1, 0, none⟩), .bool nb, .bool (na != nb), .slice Pq nq cq, .slice Pq tq cq, .agg #[.bool (na != nb), .slice Pq tq cq], .pointer (some ⟨w0.heap.size, 0, none⟩), .bool na, .slice Pr nr cr, .agg #[.bool na, .slice Pr nr cr]], defers := [] } w) :
    Code.wp Tryd.prog ((Tryd.f53.body.bind (regionOf 12)).getD .skip) Q0 { tmps := #[c0, c1, .pointer (some ⟨w0.heap.size, 0, none⟩), .pointer (some ⟨w0.heap.size + 1, 0, none⟩), .pointer (some ⟨w0.heap.size + 1 + 1, 0, none⟩), .pointer (some ⟨w0.heap.size + 1 + 1 + 1, 0, none⟩), .slice Pq nq cq, .slice Pr nr cr, c8, c9, c10, c11, c12, c13, c14, c15, c16, c17, c18, c19, c20, c21, c22, c23, c24, c25, c26, c27, c28, c29, c30, c31, c32, c33, c34, c35, c36, c37, c38, c39, c40, c41, x42, x43, x44, x45, x46, x47, x48, x49, x50, x51, x52, x53], defers := [] } W := by
  conv => arg 2; whnf
  refine wp_region_inv (by kernel_rfl) (by kernel_rfl) (D12I w0 na nb Pa Pb Pq Pr la lb nq tq nr ca cb cq cr Q R c0 c1 c8 c9 c10 c11 c12 c13 c14 c15 c16 c17 c18 c19 c20 c21 c22 c23 c24 c25 c26 c27 c28 c29 c30 c31 c32 c33 c34 c35 c36 c37 c38 c39 c40 c41) ?_ ?_ ?_
  · exact ⟨_, _, _, _, _, _, _, _, _, _, _, _, rfl, fun h => absurd h l0, fun h => absurd h l0, fun h => absurd h l0, fun h => absurd h l0, fun h => absurd h l0, fun h => absurd h l0, fun h => absurd h l0, fun h => absurd h l0, fun h => absurd h l0, fun h => absurd h l0, fun h => absurd h l0, fun h => absurd h l0, fun h => absurd h l0, fun h => absurd h l0, bdr hb0, A0.drew, A1.drew, fun _ => A2.drew, fun _ => A3.drew, HQ0, HR0⟩
  · intro i o listed A w hi ho hd hn hI
    unfold D12I at hI
    obtain ⟨s42, hI⟩ := hI
    obtain ⟨s43, hI⟩ := hI
    obtain ⟨s44, hI⟩ := hI
    obtain ⟨s45, hI⟩ := hI
    obtain ⟨s46, hI⟩ := hI
    obtain ⟨s47, hI⟩ := hI
    obtain ⟨s48, hI⟩ := hI
    obtain ⟨s49, hI⟩ := hI
    obtain ⟨s50, hI⟩ := hI
    obtain ⟨s51, hI⟩ := hI
    obtain ⟨s52, hI⟩ := hI
    obtain ⟨s53, hI⟩ := hI
    obtain ⟨rfl, hI⟩ := hI
    obtain ⟨F0, hI⟩ := hI
    obtain ⟨F1, hI⟩ := hI
    obtain ⟨F2, hI⟩ := hI
    obtain ⟨F3, hI⟩ := hI
    obtain ⟨F4, hI⟩ := hI
    obtain ⟨F5, hI⟩ := hI
    obtain ⟨F6, hI⟩ := hI
    obtain ⟨F7, hI⟩ := hI
    obtain ⟨F8, hI⟩ := hI
    obtain ⟨F9, hI⟩ := hI
    obtain ⟨F10, hI⟩ := hI
    obtain ⟨F11, hI⟩ := hI
    obtain ⟨F12, hI⟩ := hI
    obtain ⟨F13, hI⟩ := hI
    obtain ⟨F14, hI⟩ := hI
    obtain ⟨F15, hI⟩ := hI
    obtain ⟨F16, hI⟩ := hI
    obtain ⟨F17, hI⟩ := hI
    obtain ⟨F18, hI⟩ := hI
    obtain ⟨F19, hI⟩ := hI
    have F20 := hI; clear hI
    have hi' : i < 14 := hi
    clear hi
    rcases (by omega : i = 0 ∨ i = 1 ∨ i = 2 ∨ i = 3 ∨ i = 4 ∨ i = 5 ∨ i = 6 ∨ i = 7 ∨ i = 8 ∨ i = 9 ∨ i = 10 ∨ i = 11 ∨ i = 12 ∨ i = 13) with rfl | rfl | rfl | rfl | rfl | rfl | rfl | rfl | rfl | rfl | rfl | rfl | rfl | rfl
    · simp only [List.getElem?_toArray, List.getElem?_cons_zero, Option.some.injEq] at ho
      subst ho
      refine wpOp_step rfl (fun K hK => ?_)
      go_simp
      refine hK _ _ ?_
      exact ⟨_, _, _, _, _, _, _, _, _, _, _, _, rfl, fun _ => rfl, fun h => F1 (ls (by decide) h), fun h => F2 (ls (by decide) h), fun h => F3 (ls (by decide) h), fun h => F4 (ls (by decide) h), fun h => F5 (ls (by decide) h), fun h => F6 (ls (by decide) h), fun h => F7 (ls (by decide) h), fun h => F8 (ls (by decide) h), fun h => F9 (ls (by decide) h), fun h => F10 (ls (by decide) h), fun h => F11 (ls (by decide) h), fun h => F12 (ls (by decide) h), fun h => F13 (ls (by decide) h), F14, F15, F16, fun h => F17 (lsf (by decide) h), fun h => F18 (lsf (by decide) h), F19, F20⟩
    · simp only [List.getElem?_toArray, List.getElem?_cons_zero, List.getElem?_cons_succ, Option.some.injEq] at ho
      subst ho
      obtain rfl := F0 (hd ⟨0, .data⟩ (by simp) rfl)
      have O'0 := F15; obtain ⟨_, _, _, _⟩ := O'0
      refine wpOp_step rfl (fun K hK => ?_)
      go_simp
      refine hK _ _ ?_
      exact ⟨_, _, _, _, _, _, _, _, _, _, _, _, rfl, fun h => F0 (ls (by decide) h), fun _ => rfl, fun h => F2 (ls (by decide) h), fun h => F3 (ls (by decide) h), fun h => F4 (ls (by decide) h), fun h => F5 (ls (by decide) h), fun h => F6 (ls (by decide) h), fun h => F7 (ls (by decide) h), fun h => F8 (ls (by decide) h), fun h => F9 (ls (by decide) h), fun h => F10 (ls (by decide) h), fun h => F11 (ls (by decide) h), fun h => F12 (ls (by decide) h), fun h => F13 (ls (by decide) h), F14, F15, F16, fun h => F17 (lsf (by decide) h), fun h => F18 (lsf (by decide) h), F19, F20⟩
    · simp only [List.getElem?_toArray, List.getElem?_cons_zero, List.getElem?_cons_succ, Option.some.injEq] at ho
      subst ho
      refine wpOp_step rfl (fun K hK => ?_)
      go_simp
      refine hK _ _ ?_
      exact ⟨_, _, _, _, _, _, _, _, _, _, _, _, rfl, fun h => F0 (ls (by decide) h), fun h => F1 (ls (by decide) h), fun _ => rfl, fun h => F3 (ls (by decide) h), fun h => F4 (ls (by decide) h), fun h => F5 (ls (by decide) h), fun h => F6 (ls (by decide) h), fun h => F7 (ls (by decide) h), fun h => F8 (ls (by decide) h), fun h => F9 (ls (by decide) h), fun h => F10 (ls (by decide) h), fun h => F11 (ls (by decide) h), fun h => F12 (ls (by decide) h), fun h => F13 (ls (by decide) h), F14, F15, F16, fun h => F17 (lsf (by decide) h), fun h => F18 (lsf (by decide) h), F19, F20⟩
    · simp only [List.getElem?_toArray, List.getElem?_cons_zero, List.getElem?_cons_succ, Option.some.injEq] at ho
      subst ho
      obtain rfl := F2 (hd ⟨2, .data⟩ (by simp) rfl)
      have O'1 := F16; obtain ⟨_, _, _, _⟩ := O'1
      refine wpOp_step rfl (fun K hK => ?_)
      go_simp
      refine hK _ _ ?_
      exact ⟨_, _, _, _, _, _, _, _, _, _, _, _, rfl, fun h => F0 (ls (by decide) h), fun h => F1 (ls (by decide) h), fun h => F2 (ls (by decide) h), fun _ => rfl, fun h => F4 (ls (by decide) h), fun h => F5 (ls (by decide) h), fun h => F6 (ls (by decide) h), fun h => F7 (ls (by decide) h), fun h => F8 (ls (by decide) h), fun h => F9 (ls (by decide) h), fun h => F10 (ls (by decide) h), fun h => F11 (ls (by decide) h), fun h => F12 (ls (by decide) h), fun h => F13 (ls (by decide) h), F14, F15, F16, fun h => F17 (lsf (by decide) h), fun h => F18 (lsf (by decide) h), F19, F20⟩
    · simp only [List.getElem?_toArray, List.getElem?_cons_zero, List.getElem?_cons_succ, Option.some.injEq] at ho
      subst ho
      obtain rfl := F1 (hd ⟨1, .data⟩ (by simp) rfl)
      obtain rfl := F3 (hd ⟨3, .data⟩ (by simp) rfl)
      refine wpOp_step rfl (fun K hK => ?_)
      go_simp
      refine hK _ _ ?_
      exact ⟨_, _, _, _, _, _, _, _, _, _, _, _, rfl, fun h => F0 (ls (by decide) h), fun h => F1 (ls (by decide) h), fun h => F2 (ls (by decide) h), fun h => F3 (ls (by decide) h), fun _ => rfl, fun h => F5 (ls (by decide) h), fun h => F6 (ls (by decide) h), fun h => F7 (ls (by decide) h), fun h => F8 (ls (by decide) h), fun h => F9 (ls (by decide) h), fun h => F10 (ls (by decide) h), fun h => F11 (ls (by decide) h), fun h => F12 (ls (by decide) h), fun h => F13 (ls (by decide) h), F14, F15, F16, fun h => F17 (lsf (by decide) h), fun h => F18 (lsf (by decide) h), F19, F20⟩
    · simp only [List.getElem?_toArray, List.getElem?_cons_zero, List.getElem?_cons_succ, Option.some.injEq] at ho
      subst ho
      refine wpOp_step rfl (fun K hK => ?_)
      go_simp
      refine hK _ _ ?_
      exact ⟨_, _, _, _, _, _, _, _, _, _, _, _, rfl, fun h => F0 (ls (by decide) h), fun h => F1 (ls (by decide) h), fun h => F2 (ls (by decide) h), fun h => F3 (ls (by decide) h), fun h => F4 (ls (by decide) h), fun _ => rfl, fun h => F6 (ls (by decide) h), fun h => F7 (ls (by decide) h), fun h => F8 (ls (by decide) h), fun h => F9 (ls (by decide) h), fun h => F10 (ls (by decide) h), fun h => F11 (ls (by decide) h), fun h => F12 (ls (by decide) h), fun h => F13 (ls (by decide) h), F14, F15, F16, fun h => F17 (lsf (by decide) h), fun h => F18 (lsf (by decide) h), F19, F20⟩
    · simp only [List.getElem?_toArray, List.getElem?_cons_zero, List.getElem?_cons_succ, Option.some.injEq] at ho
      subst ho
      obtain rfl := F5 (hd ⟨5, .data⟩ (by simp) rfl)
      refine wpOp_step rfl (fun K hK => ?_)
      go_simp
      go_at_call 34; refine (HTr.out w F19).mono ?_; rintro e w' ⟨rfl, rfl⟩; have hb := Below.refl w.heap.size w
      refine hK _ _ ?_
      exact ⟨_, _, _, _, _, _, _, _, _, _, _, _, rfl, fun h => F0 (ls (by decide) h), fun h => F1 (ls (by decide) h), fun h => F2 (ls (by decide) h), fun h => F3 (ls (by decide) h), fun h => F4 (ls (by decide) h), fun h => F5 (ls (by decide) h), fun _ => rfl, fun h => F7 (ls (by decide) h), fun h => F8 (ls (by decide) h), fun h => F9 (ls (by decide) h), fun h => F10 (ls (by decide) h), fun h => F11 (ls (by decide) h), fun h => ((F12 (ls (by decide) h))).call hb, fun h => ((F13 (ls (by decide) h))).call hb, bt F14 hb, (F15).call hb, (F16).call hb, fun h => ((F17 (lsf (by decide) h))).call hb, fun h => ((F18 (lsf (by decide) h))).call hb, (F19).call hb, (F20).call hb⟩
    · simp only [List.getElem?_toArray, List.getElem?_cons_zero, List.getElem?_cons_succ, Option.some.injEq] at ho
      subst ho
      obtain rfl := F4 (hd ⟨4, .data⟩ (by simp) rfl)
      obtain rfl := F6 (hd ⟨6, .data⟩ (by simp) rfl)
      refine wpOp_step rfl (fun K hK => ?_)
      go_simp
      refine hK _ _ ?_
      exact ⟨_, _, _, _, _, _, _, _, _, _, _, _, rfl, fun h => F0 (ls (by decide) h), fun h => F1 (ls (by decide) h), fun h => F2 (ls (by decide) h), fun h => F3 (ls (by decide) h), fun h => F4 (ls (by decide) h), fun h => F5 (ls (by decide) h), fun h => F6 (ls (by decide) h), fun _ => rfl, fun h => F8 (ls (by decide) h), fun h => F9 (ls (by decide) h), fun h => F10 (ls (by decide) h), fun h => F11 (ls (by decide) h), fun h => F12 (ls (by decide) h), fun h => F13 (ls (by decide) h), F14, F15, F16, fun h => F17 (lsf (by decide) h), fun h => F18 (lsf (by decide) h), F19, F20⟩
    · simp only [List.getElem?_toArray, List.getElem?_cons_zero, List.getElem?_cons_succ, Option.some.injEq] at ho
      subst ho
      refine wpOp_step rfl (fun K hK => ?_)
      go_simp
      refine hK _ _ ?_
      exact ⟨_, _, _, _, _, _, _, _, _, _, _, _, rfl, fun h => F0 (ls (by decide) h), fun h => F1 (ls (by decide) h), fun h => F2 (ls (by decide) h), fun h => F3 (ls (by decide) h), fun h => F4 (ls (by decide) h), fun h => F5 (ls (by decide) h), fun h => F6 (ls (by decide) h), fun h => F7 (ls (by decide) h), fun _ => rfl, fun h => F9 (ls (by decide) h), fun h => F10 (ls (by decide) h), fun h => F11 (ls (by decide) h), fun h => F12 (ls (by decide) h), fun h => F13 (ls (by decide) h), F14, F15, F16, fun h => F17 (lsf (by decide) h), fun h => F18 (lsf (by decide) h), F19, F20⟩
    · simp only [List.getElem?_toArray, List.getElem?_cons_zero, List.getElem?_cons_succ, Option.some.injEq] at ho
      subst ho
      obtain rfl := F8 (hd ⟨8, .data⟩ (by simp) rfl)
      have O'0 := F15; obtain ⟨_, _, _, _⟩ := O'0
      refine wpOp_step rfl (fun K hK => ?_)
      go_simp
      refine hK _ _ ?_
      exact ⟨_, _, _, _, _, _, _, _, _, _, _, _, rfl, fun h => F0 (ls (by decide) h), fun h => F1 (ls (by decide) h), fun h => F2 (ls (by decide) h), fun h => F3 (ls (by decide) h), fun h => F4 (ls (by decide) h), fun h => F5 (ls (by decide) h), fun h => F6 (ls (by decide) h), fun h => F7 (ls (by decide) h), fun h => F8 (ls (by decide) h), fun _ => rfl, fun h => F10 (ls (by decide) h), fun h => F11 (ls (by decide) h), fun h => F12 (ls (by decide) h), fun h => F13 (ls (by decide) h), F14, F15, F16, fun h => F17 (lsf (by decide) h), fun h => F18 (lsf (by decide) h), F19, F20⟩
    · simp only [List.getElem?_toArray, List.getElem?_cons_zero, List.getElem?_cons_succ, Option.some.injEq] at ho
      subst ho
      refine wpOp_step rfl (fun K hK => ?_)
      go_simp
      refine hK _ _ ?_
      exact ⟨_, _, _, _, _, _, _, _, _, _, _, _, rfl, fun h => F0 (ls (by decide) h), fun h => F1 (ls (by decide) h), fun h => F2 (ls (by decide) h), fun h => F3 (ls (by decide) h), fun h => F4 (ls (by decide) h), fun h => F5 (ls (by decide) h), fun h => F6 (ls (by decide) h), fun h => F7 (ls (by decide) h), fun h => F8 (ls (by decide) h), fun h => F9 (ls (by decide) h), fun _ => rfl, fun h => F11 (ls (by decide) h), fun h => F12 (ls (by decide) h), fun h => F13 (ls (by decide) h), F14, F15, F16, fun h => F17 (lsf (by decide) h), fun h => F18 (lsf (by decide) h), F19, F20⟩
    · simp only [List.getElem?_toArray, List.getElem?_cons_zero, List.getElem?_cons_succ, Option.some.injEq] at ho
      subst ho
      obtain rfl := F9 (hd ⟨9, .data⟩ (by simp) rfl)
      obtain rfl := F10 (hd ⟨10, .data⟩ (by simp) rfl)
      refine wpOp_step rfl (fun K hK => ?_)
      go_simp
      refine hK _ _ ?_
      exact ⟨_, _, _, _, _, _, _, _, _, _, _, _, rfl, fun h => F0 (ls (by decide) h), fun h => F1 (ls (by decide) h), fun h => F2 (ls (by decide) h), fun h => F3 (ls (by decide) h), fun h => F4 (ls (by decide) h), fun h => F5 (ls (by decide) h), fun h => F6 (ls (by decide) h), fun h => F7 (ls (by decide) h), fun h => F8 (ls (by decide) h), fun h => F9 (ls (by decide) h), fun h => F10 (ls (by decide) h), fun _ => rfl, fun h => F12 (ls (by decide) h), fun h => F13 (ls (by decide) h), F14, F15, F16, fun h => F17 (lsf (by decide) h), fun h => F18 (lsf (by decide) h), F19, F20⟩
    · simp only [List.getElem?_toArray, List.getElem?_cons_zero, List.getElem?_cons_succ, Option.some.injEq] at ho
      subst ho
      obtain rfl := F7 (hd ⟨7, .data⟩ (by simp) rfl)
      have O'2 := F17 (lf hn); have O''2 := O'2; obtain ⟨_, _, _, _⟩ := O''2
      refine wpOp_step rfl (fun K hK => ?_)
      go_simp
      refine hK _ _ ?_
      exact ⟨_, _, _, _, _, _, _, _, _, _, _, _, rfl, fun h => F0 (ls (by decide) h), fun h => F1 (ls (by decide) h), fun h => F2 (ls (by decide) h), fun h => F3 (ls (by decide) h), fun h => F4 (ls (by decide) h), fun h => F5 (ls (by decide) h), fun h => F6 (ls (by decide) h), fun h => F7 (ls (by decide) h), fun h => F8 (ls (by decide) h), fun h => F9 (ls (by decide) h), fun h => F10 (ls (by decide) h), fun h => F11 (ls (by decide) h), fun _ => O'2.store _ _, fun h => ((F13 (ls (by decide) h)).set_ (by first | (simp; done) | (simp; omega))).set_ (by first | (simp; done) | (simp; omega)), bs (bs F14 (by first | (simp; done) | (simp; omega))) (by first | (simp; done) | (simp; omega)), ((F15).set_ (by first | (simp; done) | (simp; omega))).set_ (by first | (simp; done) | (simp; omega)), ((F16).set_ (by first | (simp; done) | (simp; omega))).set_ (by first | (simp; done) | (simp; omega)), fun h => _root_.Go.lx hn h, fun h => ((F18 (lsf (by decide) h)).set_ (by first | (simp; done) | (simp; omega))).set_ (by first | (simp; done) | (simp; omega)), (rd_store F19 O'2 _ _), (rd_store F20 O'2 _ _)⟩
    · simp only [List.getElem?_toArray, List.getElem?_cons_zero, List.getElem?_cons_succ, Option.some.injEq] at ho
      subst ho
      obtain rfl := F11 (hd ⟨11, .data⟩ (by simp) rfl)
      have O'3 := F18 (lf hn); have O''3 := O'3; obtain ⟨_, _, _, _⟩ := O''3
      refine wpOp_step rfl (fun K hK => ?_)
      go_simp
      refine hK _ _ ?_
      exact ⟨_, _, _, _, _, _, _, _, _, _, _, _, rfl, fun h => F0 (ls (by decide) h), fun h => F1 (ls (by decide) h), fun h => F2 (ls (by decide) h), fun h => F3 (ls (by decide) h), fun h => F4 (ls (by decide) h), fun h => F5 (ls (by decide) h), fun h => F6 (ls (by decide) h), fun h => F7 (ls (by decide) h), fun h => F8 (ls (by decide) h), fun h => F9 (ls (by decide) h), fun h => F10 (ls (by decide) h), fun h => F11 (ls (by decide) h), fun h => ((F12 (ls (by decide) h)).set_ (by first | (simp; done) | (simp; omega))).set_ (by first | (simp; done) | (simp; omega)), fun _ => O'3.store _ _, bs (bs F14 (by first | (simp; done) | (simp; omega))) (by first | (simp; done) | (simp; omega)), ((F15).set_ (by first | (simp; done) | (simp; omega))).set_ (by first | (simp; done) | (simp; omega)), ((F16).set_ (by first | (simp; done) | (simp; omega))).set_ (by first | (simp; done) | (simp; omega)), fun h => ((F17 (lsf (by decide) h)).set_ (by first | (simp; done) | (simp; omega))).set_ (by first | (simp; done) | (simp; omega)), fun h => _root_.Go.lx hn h, (rd_store F19 O'3 _ _), (rd_store F20 O'3 _ _)⟩
  · intro listed A w hall hI
    unfold D12I at hI
    obtain ⟨s42, hI⟩ := hI
    obtain ⟨s43, hI⟩ := hI
    obtain ⟨s44, hI⟩ := hI
    obtain ⟨s45, hI⟩ := hI
    obtain ⟨s46, hI⟩ := hI
    obtain ⟨s47, hI⟩ := hI
    obtain ⟨s48, hI⟩ := hI
    obtain ⟨s49, hI⟩ := hI
    obtain ⟨s50, hI⟩ := hI
    obtain ⟨s51, hI⟩ := hI
    obtain ⟨s52, hI⟩ := hI
    obtain ⟨s53, hI⟩ := hI
    obtain ⟨rfl, hI⟩ := hI
    obtain ⟨F0, hI⟩ := hI
    obtain ⟨F1, hI⟩ := hI
    obtain ⟨F2, hI⟩ := hI
    obtain ⟨F3, hI⟩ := hI
    obtain ⟨F4, hI⟩ := hI
    obtain ⟨F5, hI⟩ := hI
    obtain ⟨F6, hI⟩ := hI
    obtain ⟨F7, hI⟩ := hI
    obtain ⟨F8, hI⟩ := hI
    obtain ⟨F9, hI⟩ := hI
    obtain ⟨F10, hI⟩ := hI
    obtain ⟨F11, hI⟩ := hI
    obtain ⟨F12, hI⟩ := hI
    obtain ⟨F13, hI⟩ := hI
    obtain ⟨F14, hI⟩ := hI
    obtain ⟨F15, hI⟩ := hI
    obtain ⟨F16, hI⟩ := hI
    obtain ⟨F17, hI⟩ := hI
    obtain ⟨F18, hI⟩ := hI
    obtain ⟨F19, hI⟩ := hI
    have F20 := hI; clear hI
    obtain rfl := F0 (hall 0 (by decide))
    obtain rfl := F1 (hall 1 (by decide))
    obtain rfl := F2 (hall 2 (by decide))
    obtain rfl := F3 (hall 3 (by decide))
    obtain rfl := F4 (hall 4 (by decide))
    obtain rfl := F5 (hall 5 (by decide))
    obtain rfl := F6 (hall 6 (by decide))
    obtain rfl := F7 (hall 7 (by decide))
    obtain rfl := F8 (hall 8 (by decide))
    obtain rfl := F9 (hall 9 (by decide))
    obtain rfl := F10 (hall 10 (by decide))
    obtain rfl := F11 (hall 11 (by decide))
    have P12 := F12 (hall 12 (by decide))
    have P13 := F13 (hall 13 (by decide))
    have HB := F14
    have B0 := F15
    have B1 := F16
    have X0 := F19
    have X1 := F20
    clear hall F12 F13 F14 F15 F16 F17 F18 F19 F20 F0 F1 F2 F3 F4 F5 F6 F7 F8 F9 F10 F11
    try dsimp only

    exact hQ _ P12 P13 X0 X1 HB
end Go.Proofs
namespace Go.Proofs
open Go.Shelf Go.RowKit Go.Proofs.Wide Go.Proofs.Dig
theorem digs_len_b {T : Int} {b : List Int} (h0 : 0 ≤ T) (hT : T < 10 * val b) (hb : isDig b) : (digs T.toNat).length ≤ b.length + 1 := by
  refine digs_len_lt ?_
  have h := val_lt b hb
  rw [Int.toNat_of_nonneg h0, Int.pow_succ]
  omega
set_option maxRecDepth 100000 in
set_option maxHeartbeats 8000000 in
theorem refDiv_any (na nb : Bool) (A B : Option Addr) (a b : List Int) (ca cb : Nat) (w0 : World) (ha : Canon a) (hb : Canon b) (hy : 0 < val b) (hra : Rd w0 A a) (hrb : Rd w0 B b) (hla : a.length ≤ ca) (hlb : b.length ≤ cb) (ha6 : a.length ≤ 1000) (hb6 : b.length ≤ 1000) :
    Calls Tryd.prog 53 #[.agg #[.bool na, .slice A a.length ca], .agg #[.bool nb, .slice B b.length cb]] w0 fun e w' => ∃ v u, e = .returned (.tuple #[v, u]) ∧ OfF (na != nb) (digs (val a / val b).toNat) w' v ∧ OfF na (digs (val a % val b).toNat) w' u ∧ Below w0.heap.size w0 w' := by
  obtain ⟨i0, hi0, hz0, hz1, hz2⟩ := info_parts int_info
  have Ha := Lib.hid hra; have Hb := Lib.hid hrb
  have HCa := Lib.hid ha; have HCb := Lib.hid hb
  have hva := val_nonneg a ha.1
  clear hra hrb ha hb
  have w1a : IntKind.i64.wrap ((a.length : Int) - 1) = (a.length : Int) - 1 := by rw [IntKind.wrap_i64]; omega
  go_enter Tryd.func53, Tryd.ntmps53
  go_wp2_with fail
  go_loopw [6, 7, 8] (fun s6 s7 s8 wx => DivI na nb A B a b ca cb w0 s6 s7 s8 wx) (fun _ _ s8 _ => (intOf s8 + 1).toNat)
  case atStart =>
    refine ⟨a.length, [], rfl, Nat.le_refl _, ?_, RdF.nil _, (fun d hd => by cases hd), by simp, ?_, (((Own.new_at rfl).alloc _).alloc _).alloc _, ((Own.new_at (by simp)).alloc _).alloc _, (Own.new_at (by simp)).alloc _, Own.new_at (by simp), ba (ba (ba (ba (Below.refl _ _))))⟩
    · have e : val (a.drop a.length) % val b = 0 := by rw [List.drop_length]; simp [val]
      rw [e]; exact sum_zero _
    · rw [List.drop_length]; simp [val]
  case round =>
    obtain ⟨m, Q, rfl, hm, hR, hQ, hQd, hQl, hQv, O0, O1, O2, O3, HB⟩ := hrel
    cases m with
    | zero =>
      obtain ⟨Zq, cq, rfl, hq, hql, hqc⟩ := hQ
      obtain ⟨Zr, cr, rfl, hr, hrl, hrc⟩ := hR
      have htrim := trim_spec Q hQd
      have hT : trimL Q = digs (val a / val b).toNat := by
        have e1 := canon_digs htrim.1
        rw [htrim.2.1, hQv, List.drop_zero] at e1
        exact e1
      have hTr : ∀ w : World, Rd w Zq Q → Calls Tryd.prog 34 #[.slice Zq Q.length cq] w fun e w' => e = .returned (.slice Zq (digs (val a / val b).toNat).length cq) ∧ w = w' := fun w h => by
        have := trim_any Zq Q cq w h hql hqc
        rw [hT] at this; exact this
      have HTr := Lib.hid hTr
      have hml : (digs (val a / val b).toNat).length ≤ cq := by rw [← hT]; exact Nat.le_trans htrim.2.2.1 hql
      have htk : digs (val a / val b).toNat = Q.take (digs (val a / val b).toNat).length := by
        have := htrim.2.2.2; rw [hT] at this; exact this
      have HTK := Lib.hid htk; have HQ := Lib.hid hq; have HRd := Lib.hid hr; have HML := Lib.hid hml
      rw [List.drop_zero] at hrl
      have e0 : ((0 : Nat) : Int) - 1 = -1 := rfl
      rw [List.drop_zero] at HRd ⊢
      rw [e0]
      have HRL := Lib.hid hrl
      clear hq hr hT hTr htk htrim hml hQl hQv hrl e0
      go_upto_region 12 with fail
      refine div_region na nb A B Zq Zr a.length b.length Q.length (digs (val a / val b).toNat).length (digs (val a % val b).toNat).length ca cb cq cr Q (digs (val a % val b).toNat) _ _ _ _ _ _ _ _ _ _ _ _ _ _ _ _ _ _ _ _ _ _ _ _ _ _ _ _ _ _ _ _ _ _ _ _ _ _ _ _ _ _ _ _ _ _ _ _ w0 _ _ HB O0 O1 O2 O3 HQ.out HRd.out HTr ?_
      intro w' K4 K5 hq' hr' HB'
      obtain ⟨_, _, _, _⟩ := id K4; obtain ⟨_, _, _, _⟩ := id K5
      go_wp2
      refine bodyPost_ret (v := .tuple #[.agg #[.bool (na != nb), .slice Zq (digs (val a / val b).toNat).length cq], .agg #[.bool na, .slice Zr (digs (val a % val b).toNat).length cr]]) (by simp [results, Tryd.results53, go_sem, *]) rfl ⟨_, _, rfl, ⟨Zq, cq, rfl, ?_, HML.out, hqc⟩, ⟨Zr, cr, rfl, hr', HRL.out, hrc⟩, HB'⟩
      rw [HTK.out]
      have := hq'.take (digs (val a / val b).toNat).length
      exact this
    | succ m =>
      have hlt : m < a.length := by omega
      have hQ1000 : Q.length ≤ 1000 := by omega
      have HQl := Lib.hid hQl
      clear hQl
      obtain ⟨Z, cz, rfl, hz, hzl, hzc⟩ := hR
      have hV := val_nonneg (a.drop (m + 1)) (isDig_drop HCa.out.1 _)
      have hdr : val (a.drop m) = a[m] + 10 * val (a.drop (m + 1)) := by rw [List.drop_eq_getElem_cons hlt]; simp [val]
      have hd9 := HCa.out.1 _ (List.getElem_mem hlt)
      obtain ⟨Zq, cq, rfl, hq, hql, hqc⟩ := hQ
      obtain ⟨ad, rfl, hcell⟩ := (Ha.out.call HB) (by intro e; subst e; simp at hlt)
      have hx := hcell m _ (List.getElem?_eq_getElem hlt)
      obtain ⟨d, hd⟩ : ∃ d, a[m] = d := ⟨_, rfl⟩
      rw [hd] at hx hdr hd9
      obtain ⟨V, hVe⟩ : ∃ V, val (a.drop (m + 1)) = V := ⟨_, rfl⟩
      rw [hVe] at hV hdr hz hzl hQv ⊢
      have hds := div_step V d (val b) hV hd9.1 hy
      rw [← hdr] at hds
      have hRm := Int.emod_nonneg V (by omega : val b ≠ 0)
      have hRl := Int.emod_lt_of_pos V hy
      obtain ⟨R, hRe⟩ : ∃ R, V % val b = R := ⟨_, rfl⟩
      rw [hRe] at hds hRm hRl hz hzl ⊢
      have htr := trim_cons (d := d) (l := digs R.toNat) hd9 (digs_canon _)
      rw [(digs_val _).1, Int.toNat_of_nonneg hRm] at htr
      have em : ((m + 1 : Nat) : Int) - 1 = (m : Int) := by omega
      have hmI : (0 : Int) ≤ (m : Int) := by omega
      have wm : IntKind.i64.wrap ((m : Int) - 1) = (m : Int) - 1 := by rw [IntKind.wrap_i64]; omega
      have hRlen : (digs R.toNat).length ≤ 1000 := by
        have h3 := val_lt b HCb.out.1
        have h5 := pow10_le (show b.length ≤ 1000 by omega)
        exact digs_len_lt (by rw [Int.toNat_of_nonneg hRm]; omega)
      have HDS := Lib.hid hds; have HTR := Lib.hid htr; have HZ := Lib.hid hz; have HQ := Lib.hid hq; have HQv := Lib.hid hQv; have HVe := Lib.hid hVe; have HRe := Lib.hid hRe; have HDR := Lib.hid hdr
      have O0' := Lib.hid O0; have O1' := Lib.hid O1; have O2' := Lib.hid O2; have O3' := Lib.hid O3
      rw [em]
      clear hcell hds htr hz hq hQv hVe hRe hdr em hd
      obtain ⟨_, _, _, _⟩ := O0
      have L0 := O0'.out.lt
      go_wp2_with (first
        | (at_builtin
           obtain ⟨Bx, hRx⟩ := reads_of_rd (wr.alloc (.cells #[.int .i64 d] 3)) (HZ.out.call ((Below.refl _ _).alloc (Nat.le_refl _) _))
           refine wpList_append_any _ rfl (.tmp 23) (.tmp 24) 32 rfl wr.heap.size 3 i0 _ 1 8 Tryd.underlying32 hi0 hz0 hz1 hz2 rfl (by omega) (.slice (some ⟨wr.heap.size, 0, none⟩) 1 1) 1 _ rfl (own_one wr _ d (Nat.le_refl _)) Bx Z (digs R.toNat).length cz (cellsD (digs R.toNat)) rfl hRx (cellsD_one _) (by unfold maxLen; omega) (by omega) (by simp) ?_
           intro v3 w3 hown3 hg3 hat3
           have hb3 : Below wr.heap.size wr w3 := ((Below.refl _ _).alloc (Nat.le_refl _) _).grown hg3 (by simp) (fun k hk => by simp [Value.ownBlock] at hk; omega)
           obtain ⟨A3, c3, rfl, hr3, hl3, hc3⟩ := rdF_cons hown3
           have HT3 := Lib.hid (trim_any A3 (d :: digs R.toNat) c3 w3 hr3 hl3 hc3)
           have HR3 := Lib.hid hr3
           clear hown3 hg3 hat3 hr3 hRx)
        | (go_at_call 34; refine HT3.out.mono ?_; rintro e w4 ⟨rfl, rfl⟩))
      have hq3 := HQ.out.call hb3
      have P0 := O0'.out.call hb3; have P1 := O1'.out.call hb3; have P2 := O2'.out.call hb3; have P3 := O3'.out.call hb3
      have HB3 := bt HB hb3
      have hX0 : 0 ≤ d + 10 * R := by omega
      have hr4 := HR3.out.take (trimL (d :: digs R.toNat)).length
      rw [← (trim_spec (d :: digs R.toNat) (by intro x hx; rcases List.mem_cons.1 hx with rfl | h; exact hd9; exact (digs_val R.toNat).2.1 x h)).2.2.2] at hr4
      have hl4 : (trimL (d :: digs R.toNat)).length ≤ c3 := Nat.le_trans (trim_spec (d :: digs R.toNat) (by intro x hx; rcases List.mem_cons.1 hx with rfl | h; exact hd9; exact (digs_val R.toNat).2.1 x h)).2.2.1 hl3
      rw [HTR.out] at hr4 hl4 ⊢
      have ht10 : (10 : Int) * val b = val b * 10 := Int.mul_comm _ _
      go_loopw [7, 9] (fun s7 s9 wx => DivK na nb (some ad) B a b ca cb (d + 10 * R) (.slice Zq Q.length cq) Q w0 s7 s9 wx) (fun _ s9 _ => (9 - intOf s9).toNat)
      case atStart =>
        refine ⟨0, rfl, by omega, by simp; omega, ?_, ⟨Zq, cq, rfl, hq3, hql, hqc⟩, P0, P1, P2, P3, HB3⟩
        have e : d + 10 * R - ((0 : Nat) : Int) * val b = d + 10 * R := by simp
        rw [e]
        exact ⟨A3, c3, rfl, hr4, hl4, hc3⟩
      case round =>
        obtain ⟨n, rfl, hn9, hn0, hsum, hq4, G0, G1, G2, G3, HB4⟩ := hrel
        obtain ⟨Y, cy, rfl, hyy, hyl, hyc⟩ := hsum
        obtain ⟨T, hT⟩ : ∃ T, d + 10 * R - n * val b = T := ⟨_, rfl⟩
        rw [hT] at hn0 hyy hyl ⊢
        have hTlen : (digs T.toNat).length ≤ 1000000 := by
          have hnv : 0 ≤ (n : Int) * val b := Int.mul_nonneg (by omega) (by omega)
          have hlt10 : T < 10 * val b := by
            have hTT := hT
            generalize (n : Int) * val b = pp at hnv hTT
            omega
          have := digs_len_b hn0 hlt10 HCb.out.1
          omega
        have hvT : val (digs T.toNat) = T := by rw [(digs_val _).1, Int.toNat_of_nonneg hn0]
        have HCM := Lib.hid (refCmp_any Y B (digs T.toNat) b cy cb wr (digs_canon _) HCb.out hyy (Hb.out.call HB4) hyl hlb hTlen)
        rw [hvT] at HCM
        have G0' := Lib.hid G0; have G1' := Lib.hid G1; have G2' := Lib.hid G2; have G3' := Lib.hid G3; have HYY := Lib.hid hyy; have HQ4 := Lib.hid hq4; have HT := Lib.hid hT
        clear hyy hq4 hT
        obtain ⟨cv, hcv⟩ : ∃ cv, cmpV T (val b) = cv := ⟨_, rfl⟩
        rw [hcv] at HCM
        by_cases hge : val b ≤ T
        · have hc : decide ((0 : Int) ≤ cv) = true := by rw [← hcv]; unfold cmpV; simp; split <;> (try split) <;> omega
          have HMI := minus_g (digs T.toNat) b (digs_canon _) HCb.out (by rw [hvT]; exact hge) hTlen
          rw [hvT] at HMI
          have HM := Lib.hid HMI
          have e1 : d + 10 * R - ((n + 1 : Nat) : Int) * val b = T - val b := by rw [← HT.out]; simp [Int.add_mul]; omega
          have hn8 : n + 1 ≤ 9 := by
            have h9 : ((n + 1 : Nat) : Int) * val b < 10 * val b := by
              have e2 := e1
              generalize ((n + 1 : Nat) : Int) * val b = pp at e2 ⊢
              omega
            have := Int.lt_of_mul_lt_mul_right h9 (by omega)
            omega
          have HE1 := Lib.hid e1
          clear e1
          obtain ⟨_, _, _, _⟩ := G1
          clear hcv HMI hvT hTlen
          go_wp2_with (first
            | (go_at_call 75; refine HCM.out.mono ?_; rintro e w5 ⟨rfl, hb5⟩; have J1 := G1'.out.call hb5; obtain ⟨_, _, _, _⟩ := J1)
            | (go_at_call 76; refine (HM.out w5 _ _ _ _ (HYY.out.call hb5) (Hb.out.call (bt HB4 hb5)) hyl hlb).mono ?_; rintro e w6 ⟨v6, rfl, hof6, hb6⟩))
          go_roundw
          case rel =>
            have hb56 := bt hb5 hb6
            refine ⟨n + 1, by go_num, ?_, by rw [HE1.out]; omega, by rw [HE1.out]; exact hof6, HQ4.out.call hb56, G0'.out.call hb56, G1'.out.call hb56, G2'.out.call hb56, G3'.out.call hb56, bt HB4 hb56⟩
            omega
          case measure => simp [intOf]; omega
        · have hc : decide ((0 : Int) ≤ cv) = false := by rw [← hcv]; unfold cmpV; simp; split <;> (try split) <;> omega
          obtain ⟨_, _, _, _⟩ := G1
          clear hcv hvT hTlen
          go_upto_region 11 with (go_at_call 75; refine HCM.out.mono ?_; rintro e w5 ⟨rfl, hb5⟩)
          have hquo : (n : Int) = (d + 10 * R) / val b ∧ T = (d + 10 * R) % val b := by
            have e1 : d + 10 * R = T + val b * n := by rw [← HT.out, Int.mul_comm (val b)]; omega
            rw [e1, Int.add_mul_ediv_left _ _ (by omega), Int.add_mul_emod_self_left, Int.ediv_eq_zero_of_lt hn0 (by omega), Int.emod_eq_of_lt hn0 (by omega)]
            exact ⟨by omega, rfl⟩
          have HQU := Lib.hid hquo
          have B5 := bt HB4 hb5
          have hq5 := HQ4.out.call hb5
          obtain ⟨Zq', cq', eq', hq6, hql6, hqc6⟩ := hq5
          have HQ6 := Lib.hid hq6
          have HEQ := Lib.hid eq'
          clear hquo hq6 eq'
          have eqs := HEQ.out
          injection eqs with q1 q2 q3
          subst q1; subst q3
          clear q2 HEQ
          go_wp2_with (at_builtin; go_must (obtain ⟨Bx, hRx⟩ := reads_of_rd (w5.alloc (.cells #[.int .i64 (n : Int)] 3)) (HQ6.out.call ((Below.refl _ _).alloc (Nat.le_refl _) _)); refine wpList_append_any _ rfl (.tmp 39) (.tmp 40) 32 rfl w5.heap.size 3 i0 _ 1 8 Tryd.underlying32 hi0 hz0 hz1 hz2 rfl (by omega) (.slice (some ⟨w5.heap.size, 0, none⟩) 1 1) 1 _ rfl (own_one w5 _ (n : Int) (Nat.le_refl _)) Bx Zq Q.length cq (cellsD Q) rfl hRx (cellsD_one _) (by unfold maxLen; omega) (by omega) (by simp) ?_; intro v7 w7 hown7 hg7 hat7; have hb7 : Below w5.heap.size w5 w7 := ((Below.refl _ _).alloc (Nat.le_refl _) _).grown hg7 (by simp) (fun k hk => by simp [Value.ownBlock] at hk; omega); have hr7 := rdF_cons hown7; clear hown7 hg7 hat7 hRx))
          have hb57 := bt hb5 hb7
          refine ⟨⟨m, (n : Int) :: Q, rfl, by omega, ?_, hr7, ?_, ?_, ?_, G0'.out.call hb57, G1'.out.call hb57, G2'.out.call hb57, G3'.out.call hb57, bt HB4 hb57⟩, by first | (simp [intOf]; done) | (simp [intOf]; omega)⟩
          · rw [HDS.out.2, ← HQU.out.2]
            exact ⟨Y, cy, rfl, HYY.out.call hb57, hyl, hyc⟩
          · intro x hx; rcases List.mem_cons.1 hx with rfl | h
            · omega
            · exact hQd x h
          · have := HQl.out; simp; omega
          · rw [HDS.out.1, ← HQU.out.1]
            have e1 : val ((n : Int) :: Q) = n + 10 * val Q := by simp [val]
            rw [e1, HQv.out]; omega
end Go.Proofs
