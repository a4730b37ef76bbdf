/- The reference compares two numbers by their digits. No condition beyond what the theorems state. -/
import Derived.Test.YtemgabmafmehnaaGreatDoorDeRefs
import Derived.Test.YtemgabmafmehnaaGreatDoorDeRefUp
import Derived.Test.YtemgabmafmehnaaGreatDoorDeRefAdd
import Derived.Test.YtemgabmafmehnaaGreatDoorDeRefSums
namespace Go.Proofs.YtemgabmafmehnaaGreatDoor
open Go.Shelf Go.RowKit Go.Proofs.Wide Go.Proofs.Dig
set_option maxRecDepth 100000
set_option maxHeartbeats 8000000
theorem digs_nil {u : Nat} : digs u = [] ↔ u = 0 := by
  constructor
  · intro h
    have := (digs_val u).1
    rw [h] at this
    simp [val] at this
    omega
  · rintro rfl
    exact digs_zero
theorem val_upL (l : List Int) (n : Nat) : val (upL l n) = 10 ^ n * val l := by
  unfold upL
  split
  · rename_i h; subst h; simp [val]
  · rw [val_append, val_zeros, List.length_replicate]; omega
theorem upL_canon {l : List Int} (h : Canon l) (n : Nat) : Canon (upL l n) := by
  unfold upL
  split
  · exact ⟨fun d hd => (by cases hd), .inl rfl⟩
  · rename_i hl
    refine ⟨isDig_append (isDig_zeros n) h.1, .inr ?_⟩
    rcases h.2 with h0 | h0
    · exact absurd h0 hl
    · have hp : 0 < l.length := List.length_pos_iff.2 hl
      rw [val_append, val_zeros, List.length_replicate, List.length_append, List.length_replicate, show n + l.length - 1 = n + (l.length - 1) by omega, Int.pow_add]
      have := Int.mul_le_mul_of_nonneg_left h0 (Int.le_of_lt (p10 n))
      omega
theorem upL_len (l : List Int) (n : Nat) : (upL l n).length ≤ n + l.length := by
  unfold upL
  split
  · simp
  · rw [List.length_append, List.length_replicate]; omega
/-- What the reference's comparison answers. -/
def cmpB (an : Int) (k : Nat) (bn : Int) (l : Nat) : Int :=
  if (addB (decide (an < 0)) (!decide (bn < 0)) (upL (digs an.natAbs) (sc k l - k)) (upL (digs bn.natAbs) (sc k l - l))).2 = [] then 0
  else if (addB (decide (an < 0)) (!decide (bn < 0)) (upL (digs an.natAbs) (sc k l - k)) (upL (digs bn.natAbs) (sc k l - l))).1 = true then -1 else 1
theorem cmpB_eq (an : Int) (k : Nat) (bn : Int) (l : Nat) : cmpB an k bn l = cmpZ an k bn l := by
  unfold cmpB cmpZ lx
  rw [show sc l k = sc k l by unfold sc; omega]
  have p1 := p10 (sc k l - k)
  have p2 := p10 (sc k l - l)
  have vx : val (upL (digs an.natAbs) (sc k l - k)) = 10 ^ (sc k l - k) * (an.natAbs : Int) := by rw [val_upL, (digs_val _).1]
  have vy : val (upL (digs bn.natAbs) (sc k l - l)) = 10 ^ (sc k l - l) * (bn.natAbs : Int) := by rw [val_upL, (digs_val _).1]
  unfold addB
  rw [vx, vy]
  generalize (10 : Int) ^ (sc k l - k) = P at *
  generalize (10 : Int) ^ (sc k l - l) = Q at *
  have ha : (an < 0 ∧ P * (an.natAbs : Int) = -(an * P) ∧ an * P < 0) ∨ (¬ an < 0 ∧ P * (an.natAbs : Int) = an * P ∧ 0 ≤ an * P) := by
    by_cases h : an < 0
    · refine .inl ⟨h, ?_, Int.mul_neg_of_neg_of_pos h p1⟩
      rw [show (an.natAbs : Int) = -an by omega, Int.mul_neg, Int.mul_comm]
    · refine .inr ⟨h, ?_, Int.mul_nonneg (by omega) (by omega)⟩
      rw [show (an.natAbs : Int) = an by omega, Int.mul_comm]
  have hb : (bn < 0 ∧ Q * (bn.natAbs : Int) = -(bn * Q) ∧ bn * Q < 0) ∨ (¬ bn < 0 ∧ Q * (bn.natAbs : Int) = bn * Q ∧ 0 ≤ bn * Q) := by
    by_cases h : bn < 0
    · refine .inl ⟨h, ?_, Int.mul_neg_of_neg_of_pos h p2⟩
      rw [show (bn.natAbs : Int) = -bn by omega, Int.mul_neg, Int.mul_comm]
    · refine .inr ⟨h, ?_, Int.mul_nonneg (by omega) (by omega)⟩
      rw [show (bn.natAbs : Int) = bn by omega, Int.mul_comm]
  generalize P * (an.natAbs : Int) = X at *
  generalize Q * (bn.natAbs : Int) = Y at *
  generalize an * P = x at *
  generalize bn * Q = y at *
  rcases ha with ⟨a1, rfl, a3⟩ | ⟨a1, rfl, a3⟩ <;> rcases hb with ⟨b1, rfl, b3⟩ | ⟨b1, rfl, b3⟩ <;> simp only [a1, b1, decide_true, decide_false, Bool.not_true, Bool.not_false, if_true, if_false, Bool.false_eq_true, Bool.true_eq_false] <;> (repeat' split) <;> (try simp only [digs_nil] at *) <;> first | rfl | omega | contradiction | exact absurd trivial (by assumption)
theorem trim_canon {l : List Int} (h : Canon l) : trimL l = l := by
  obtain ⟨h1, h2, _, _⟩ := trim_spec l h.1
  exact canon_inj h1 h h2
theorem addB_canon (na nb : Bool) (a b : List Int) : Canon (addB na nb a b).2 := by
  unfold addB
  split
  · exact digs_canon _
  · split <;> exact digs_canon _
theorem offStore {l : List Int} {neg : Bool} {w : World} {s : Value} {g : Nat} {b : Bool} {y0 : Option Addr} {y1 y2 : Nat} (h : OfF neg l w s) (K : Own w g (.bool b) (.slice y0 y1 y2)) (u v : Value) : OfF neg l ((w.setCell ⟨g, 0, none⟩ u).setCell ⟨g, 1, none⟩ v) s := by
  obtain ⟨A, c, hs, hr, h1, h2⟩ := h
  exact ⟨A, c, hs, rd_store hr K u v, h1, h2⟩
/-- A block that holds a whole number, whatever it is. -/
def Slot (w : World) (w0 : World) (gy : Nat) (s : Value) : Prop := ∃ (g : Nat) (b : Bool) (y0 : Option Addr) (y1 y2 : Nat), s = .pointer (some ⟨g, 0, none⟩) ∧ Own w g (.bool b) (.slice y0 y1 y2) ∧ w0.heap.size ≤ g ∧ g ≠ gy
theorem Slot.call {w w' w0 : World} {gy : Nat} {s : Value} (h : Slot w w0 gy s) (hb : Below w.heap.size w w') : Slot w' w0 gy s := by
  obtain ⟨g, b, y0, y1, y2, h1, h2, h3, h4⟩ := h
  exact ⟨g, b, y0, y1, y2, h1, h2.call hb, h3, h4⟩
def Cm4I (w0 : World) (an k s : Int) (m : Nat) (na nb r1 : Bool) (x u v r2 : List Int) (Av : Option Addr) (cv gy : Nat) (c2 c3 c4 c5 c6 c7 c8 c12 c13 c14 c15 c16 c17 c18 c19 c20 c21 c22 c23 c24 c33 c34 c35 c36 c37 c38 c39 : Value) (listed : Array Bool) (A : Act) (w : World) : Prop := ∃ (s11 s25 s26 s27 s28 s29 s30 s31 s32 : Value), A = { tmps := #[.int .i64 an, .int .i64 k, c2, c3, c4, c5, c6, c7, c8, .int .i64 s, .pointer (some ⟨gy, 0, none⟩), s11, c12, c13, c14, c15, c16, c17, c18, c19, c20, c21, c22, c23, c24, s25, s26, s27, s28, s29, s30, s31, s32, c33, c34, c35, c36, c37, c38, c39], defers := [] } ∧
  (listed.getD 0 false = true → s25 = .int .i64 an) ∧
  (listed.getD 1 false = true → OfF na x w s26) ∧
  (listed.getD 2 false = true → s27 = .int .i64 s) ∧
  (listed.getD 3 false = true → s28 = .int .i64 k) ∧
  (listed.getD 4 false = true → s29 = .int .i64 ((m : Nat) : Int)) ∧
  (listed.getD 5 false = true → OfF na u w s30) ∧
  (listed.getD 6 false = true → OfF nb v w s31) ∧
  (listed.getD 7 false = true → OfF r1 r2 w s32) ∧
  (listed.getD 8 false = true → Slot w w0 gy s11) ∧
  (listed.getD 9 false = true → listed.getD 8 false = true ∧ ∃ g A c, s11 = .pointer (some ⟨g, 0, none⟩) ∧ Own w g (.bool r1) (.slice A r2.length c) ∧ Rd w A r2 ∧ r2.length ≤ c ∧ c ≤ 9223372036854775807) ∧
  Below w0.heap.size w0 w ∧
  Own w gy (.bool nb) (.slice Av v.length cv) ∧
  Rd w Av v
set_option maxRecDepth 100000 in
set_option maxHeartbeats 16000000 in
theorem Cm4_region (an k s : Int) (m : Nat) (na nb r1 : Bool) (x u v r2 : List Int) (Av : Option Addr) (cv gy : Nat) (x11 x25 x26 x27 x28 x29 x30 x31 x32 : Value) (c2 c3 c4 c5 c6 c7 c8 c12 c13 c14 c15 c16 c17 c18 c19 c20 c21 c22 c23 c24 c33 c34 c35 c36 c37 c38 c39 : Value) (w0 W : World) (Q : Exit → Act → World → Prop) (hb0 : Below w0.heap.size w0 W) (Hy : Own W gy (.bool nb) (.slice Av v.length cv)) (Hr : Rd W Av v) (hv8 : v.length ≤ cv) (hv9 : cv ≤ 9223372036854775807) (hm : IntKind.i64.wrap (s - k) = (m : Int))
    (H1 : Hid (∀ w : World, Calls Tryz.prog 74 #[.int .i64 an] w fun e w' => ∃ v, e = .returned v ∧ OfF na x w' v ∧ Below w.heap.size w w'))
    (H2 : Hid (∀ (w : World) (A : Option Addr) (c : Nat), Rd w A x → x.length ≤ c → c ≤ 9223372036854775807 → Calls Tryz.prog 89 #[.agg #[.bool na, .slice A x.length c], .int .i64 ((m : Nat) : Int)] w fun e w' => ∃ v, e = .returned v ∧ OfF na u w' v ∧ Below w.heap.size w w'))
    (H3 : Hid (∀ (w : World) (A B : Option Addr) (c d : Nat), Rd w A u → Rd w B v → u.length ≤ c → v.length ≤ d → Calls Tryz.prog 90 #[.agg #[.bool na, .slice A u.length c], .agg #[.bool nb, .slice B v.length d]] w fun e w' => ∃ z, e = .returned z ∧ OfF r1 r2 w' z ∧ Below w.heap.size w w'))
    (hQ : ∀ (w : World) (y26 y30 y31 y32 y11 : Value) , (∃ g A c, y11 = .pointer (some ⟨g, 0, none⟩) ∧ Own w g (.bool r1) (.slice A r2.length c) ∧ Rd w A r2 ∧ r2.length ≤ c ∧ c ≤ 9223372036854775807) → Below w0.heap.size w0 w → Q .normal { tmps := #[.int .i64 an, .int .i64 k, c2, c3, c4, c5, c6, c7, c8, .int .i64 s, .pointer (some ⟨gy, 0, none⟩), y11, c12, c13, c14, c15, c16, c17, c18, c19, c20, c21, c22, c23, c24, .int .i64 an, y26, .int .i64 s, .int .i64 k, .int .i64 ((m : Nat) : Int), y30, y31, y32, c33, c34, c35, c36, c37, c38, c39], defers := [] } w) :
    Code.wp Tryz.prog ((Tryz.f63.body.bind (regionOf 4)).getD .skip) Q { tmps := #[.int .i64 an, .int .i64 k, c2, c3, c4, c5, c6, c7, c8, .int .i64 s, .pointer (some ⟨gy, 0, none⟩), x11, c12, c13, c14, c15, c16, c17, c18, c19, c20, c21, c22, c23, c24, x25, x26, x27, x28, x29, x30, x31, x32, c33, c34, c35, c36, c37, c38, c39], defers := [] } W := by
  conv => arg 2; whnf
  refine wp_region_inv (by kernel_rfl) (by kernel_rfl) (Cm4I w0 an k s m na nb r1 x u v r2 Av cv gy c2 c3 c4 c5 c6 c7 c8 c12 c13 c14 c15 c16 c17 c18 c19 c20 c21 c22 c23 c24 c33 c34 c35 c36 c37 c38 c39) ?_ ?_ ?_
  · exact ⟨_, _, _, _, _, _, _, _, _, rfl, fun h => absurd h l0, fun h => absurd h l0, fun h => absurd h l0, fun h => absurd h l0, fun h => absurd h l0, fun h => absurd h l0, fun h => absurd h l0, fun h => absurd h l0, fun h => absurd h l0, fun h => absurd h l0, bdr hb0, Hy, Hr⟩
  · intro i o listed A w hi ho hd hn hI
    unfold Cm4I at hI
    obtain ⟨s11, hI⟩ := hI
    obtain ⟨s25, hI⟩ := hI
    obtain ⟨s26, hI⟩ := hI
    obtain ⟨s27, hI⟩ := hI
    obtain ⟨s28, hI⟩ := hI
    obtain ⟨s29, hI⟩ := hI
    obtain ⟨s30, hI⟩ := hI
    obtain ⟨s31, hI⟩ := hI
    obtain ⟨s32, hI⟩ := hI
    obtain ⟨rfl, hI⟩ := hI
    obtain ⟨F0, hI⟩ := hI
    obtain ⟨F1, hI⟩ := hI
    obtain ⟨F2, hI⟩ := hI
    obtain ⟨F3, hI⟩ := hI
    obtain ⟨F4, hI⟩ := hI
    obtain ⟨F5, hI⟩ := hI
    obtain ⟨F6, hI⟩ := hI
    obtain ⟨F7, hI⟩ := hI
    obtain ⟨F8, hI⟩ := hI
    obtain ⟨F9, hI⟩ := hI
    obtain ⟨F10, hI⟩ := hI
    obtain ⟨F11, hI⟩ := hI
    have F12 := hI; clear hI
    have hi' : i < 10 := hi
    clear hi
    rcases (by omega : i = 0 ∨ i = 1 ∨ i = 2 ∨ i = 3 ∨ i = 4 ∨ i = 5 ∨ i = 6 ∨ i = 7 ∨ i = 8 ∨ i = 9) with rfl | rfl | rfl | rfl | rfl | rfl | rfl | rfl | rfl | rfl
    · simp only [List.getElem?_toArray, List.getElem?_cons_zero, Option.some.injEq] at ho
      subst ho
      refine wpOp_step rfl (fun K hK => ?_)
      go_simp
      refine hK _ _ ?_
      exact ⟨_, _, _, _, _, _, _, _, _, rfl, fun _ => rfl, fun h => F1 (ls (by decide) h), fun h => F2 (ls (by decide) h), fun h => F3 (ls (by decide) h), fun h => F4 (ls (by decide) h), fun h => F5 (ls (by decide) h), fun h => F6 (ls (by decide) h), fun h => F7 (ls (by decide) h), fun h => F8 (ls (by decide) h), fun h => let ⟨q, z⟩ := (F9 (ls (by decide) h)); ⟨la q, z⟩, F10, F11, F12⟩
    · simp only [List.getElem?_toArray, List.getElem?_cons_zero, List.getElem?_cons_succ, Option.some.injEq] at ho
      subst ho
      obtain rfl := F0 (hd ⟨0, .data⟩ (by simp) rfl)
      refine wpOp_step rfl (fun K hK => ?_)
      go_simp
      go_at_call 74
      refine (H1.out w).mono ?_
      rintro e w' ⟨v', rfl, ho', hb⟩
      refine hK _ _ ?_
      exact ⟨_, _, _, _, _, _, _, _, _, rfl, fun h => F0 (ls (by decide) h), fun _ => ho', fun h => F2 (ls (by decide) h), fun h => F3 (ls (by decide) h), fun h => F4 (ls (by decide) h), fun h => (F5 (ls (by decide) h)).call hb, fun h => (F6 (ls (by decide) h)).call hb, fun h => (F7 (ls (by decide) h)).call hb, fun h => (F8 (ls (by decide) h)).call hb, fun h => let ⟨q, g, A, c, e, K, r, a, b⟩ := (F9 (ls (by decide) h)); ⟨la q, g, A, c, e, K.call hb, r.call hb, a, b⟩, bt F10 hb, F11.call hb, F12.call hb⟩
    · simp only [List.getElem?_toArray, List.getElem?_cons_zero, List.getElem?_cons_succ, Option.some.injEq] at ho
      subst ho
      refine wpOp_step rfl (fun K hK => ?_)
      go_simp
      refine hK _ _ ?_
      exact ⟨_, _, _, _, _, _, _, _, _, rfl, fun h => F0 (ls (by decide) h), fun h => F1 (ls (by decide) h), fun _ => rfl, fun h => F3 (ls (by decide) h), fun h => F4 (ls (by decide) h), fun h => F5 (ls (by decide) h), fun h => F6 (ls (by decide) h), fun h => F7 (ls (by decide) h), fun h => F8 (ls (by decide) h), fun h => let ⟨q, z⟩ := (F9 (ls (by decide) h)); ⟨la q, z⟩, F10, F11, F12⟩
    · simp only [List.getElem?_toArray, List.getElem?_cons_zero, List.getElem?_cons_succ, Option.some.injEq] at ho
      subst ho
      refine wpOp_step rfl (fun K hK => ?_)
      go_simp
      refine hK _ _ ?_
      exact ⟨_, _, _, _, _, _, _, _, _, rfl, fun h => F0 (ls (by decide) h), fun h => F1 (ls (by decide) h), fun h => F2 (ls (by decide) h), fun _ => rfl, fun h => F4 (ls (by decide) h), fun h => F5 (ls (by decide) h), fun h => F6 (ls (by decide) h), fun h => F7 (ls (by decide) h), fun h => F8 (ls (by decide) h), fun h => let ⟨q, z⟩ := (F9 (ls (by decide) h)); ⟨la q, z⟩, F10, F11, F12⟩
    · simp only [List.getElem?_toArray, List.getElem?_cons_zero, List.getElem?_cons_succ, Option.some.injEq] at ho
      subst ho
      obtain rfl := F2 (hd ⟨2, .data⟩ (by simp) rfl)
      obtain rfl := F3 (hd ⟨3, .data⟩ (by simp) rfl)
      refine wpOp_step rfl (fun K hK => ?_)
      go_simp
      refine hK _ _ ?_
      exact ⟨_, _, _, _, _, _, _, _, _, rfl, fun h => F0 (ls (by decide) h), fun h => F1 (ls (by decide) h), fun h => F2 (ls (by decide) h), fun h => F3 (ls (by decide) h), fun _ => rfl, fun h => F5 (ls (by decide) h), fun h => F6 (ls (by decide) h), fun h => F7 (ls (by decide) h), fun h => F8 (ls (by decide) h), fun h => let ⟨q, z⟩ := (F9 (ls (by decide) h)); ⟨la q, z⟩, F10, F11, F12⟩
    · simp only [List.getElem?_toArray, List.getElem?_cons_zero, List.getElem?_cons_succ, Option.some.injEq] at ho
      subst ho
      obtain ⟨A9, c9, rfl, hr9, hl9, hc9⟩ := F1 (hd ⟨1, .data⟩ (by simp) rfl)
      obtain rfl := F4 (hd ⟨4, .data⟩ (by simp) rfl)
      refine wpOp_step rfl (fun K hK => ?_)
      go_simp
      go_at_call 89
      refine (H2.out w A9 c9 hr9 hl9 hc9).mono ?_
      rintro e w' ⟨v', rfl, ho', hb⟩
      refine hK _ _ ?_
      exact ⟨_, _, _, _, _, _, _, _, _, rfl, fun h => F0 (ls (by decide) h), fun h => (F1 (ls (by decide) h)).call hb, fun h => F2 (ls (by decide) h), fun h => F3 (ls (by decide) h), fun h => F4 (ls (by decide) h), fun _ => ho', fun h => (F6 (ls (by decide) h)).call hb, fun h => (F7 (ls (by decide) h)).call hb, fun h => (F8 (ls (by decide) h)).call hb, fun h => let ⟨q, g, A, c, e, K, r, a, b⟩ := (F9 (ls (by decide) h)); ⟨la q, g, A, c, e, K.call hb, r.call hb, a, b⟩, bt F10 hb, F11.call hb, F12.call hb⟩
    · simp only [List.getElem?_toArray, List.getElem?_cons_zero, List.getElem?_cons_succ, Option.some.injEq] at ho
      subst ho
      obtain ⟨_, _, _, _⟩ := id F11
      refine wpOp_step rfl (fun K hK => ?_)
      go_simp
      refine hK _ _ ?_
      exact ⟨_, _, _, _, _, _, _, _, _, rfl, fun h => F0 (ls (by decide) h), fun h => F1 (ls (by decide) h), fun h => F2 (ls (by decide) h), fun h => F3 (ls (by decide) h), fun h => F4 (ls (by decide) h), fun h => F5 (ls (by decide) h), fun _ => ⟨_, _, rfl, F12, hv8, hv9⟩, fun h => F7 (ls (by decide) h), fun h => F8 (ls (by decide) h), fun h => let ⟨q, z⟩ := (F9 (ls (by decide) h)); ⟨la q, z⟩, F10, F11, F12⟩
    · simp only [List.getElem?_toArray, List.getElem?_cons_zero, List.getElem?_cons_succ, Option.some.injEq] at ho
      subst ho
      obtain ⟨A9, c9, rfl, hr9, hl9, hc9⟩ := F5 (hd ⟨5, .data⟩ (by simp) rfl)
      obtain ⟨A8, c8, rfl, hr8, hl8, hc8⟩ := F6 (hd ⟨6, .data⟩ (by simp) rfl)
      refine wpOp_step rfl (fun K hK => ?_)
      go_simp
      go_at_call 90
      refine (H3.out w A9 A8 c9 c8 hr9 hr8 hl9 hl8).mono ?_
      rintro e w' ⟨v', rfl, ho', hb⟩
      refine hK _ _ ?_
      exact ⟨_, _, _, _, _, _, _, _, _, rfl, fun h => F0 (ls (by decide) h), fun h => (F1 (ls (by decide) h)).call hb, fun h => F2 (ls (by decide) h), fun h => F3 (ls (by decide) h), fun h => F4 (ls (by decide) h), fun h => (F5 (ls (by decide) h)).call hb, fun h => (F6 (ls (by decide) h)).call hb, fun _ => ho', fun h => (F8 (ls (by decide) h)).call hb, fun h => let ⟨q, g, A, c, e, K, r, a, b⟩ := (F9 (ls (by decide) h)); ⟨la q, g, A, c, e, K.call hb, r.call hb, a, b⟩, bt F10 hb, F11.call hb, F12.call hb⟩
    · simp only [List.getElem?_toArray, List.getElem?_cons_zero, List.getElem?_cons_succ, Option.some.injEq] at ho
      subst ho
      have hgy := F11.lt
      refine wpOp_step rfl (fun K hK => ?_)
      go_simp
      refine hK _ _ ?_
      exact ⟨_, _, _, _, _, _, _, _, _, rfl, fun h => F0 (ls (by decide) h), fun h => (F1 (ls (by decide) h)).call ((Below.refl _ _).alloc (Nat.le_refl _) _), fun h => F2 (ls (by decide) h), fun h => F3 (ls (by decide) h), fun h => F4 (ls (by decide) h), fun h => (F5 (ls (by decide) h)).call ((Below.refl _ _).alloc (Nat.le_refl _) _), fun h => (F6 (ls (by decide) h)).call ((Below.refl _ _).alloc (Nat.le_refl _) _), fun h => (F7 (ls (by decide) h)).call ((Below.refl _ _).alloc (Nat.le_refl _) _), fun _ => ⟨_, _, _, _, _, rfl, Own.new _ _ _ _, F10.size, Ne.symm (Nat.ne_of_lt hgy)⟩, fun h => lc hn ((F9 (ls (by decide) h))).1, ba F10, F11.alloc _, F12.call ((Below.refl _ _).alloc (Nat.le_refl _) _)⟩
    · simp only [List.getElem?_toArray, List.getElem?_cons_zero, List.getElem?_cons_succ, Option.some.injEq] at ho
      subst ho
      obtain ⟨g, b9, z0, z1, z2, rfl, K9, hg9, hne9⟩ := F8 (hd ⟨8, .data⟩ (by simp) rfl)
      obtain ⟨A9, c9, rfl, hr9, hl9, hc9⟩ := F7 (hd ⟨7, .data⟩ (by simp) rfl)
      obtain ⟨_, _, _, _⟩ := id K9
      refine wpOp_step rfl (fun K hK => ?_)
      go_simp
      refine hK _ _ ?_
      exact ⟨_, _, _, _, _, _, _, _, _, rfl, fun h => F0 (ls (by decide) h), fun h => offStore (F1 (ls (by decide) h)) K9 _ _, fun h => F2 (ls (by decide) h), fun h => F3 (ls (by decide) h), fun h => F4 (ls (by decide) h), fun h => offStore (F5 (ls (by decide) h)) K9 _ _, fun h => offStore (F6 (ls (by decide) h)) K9 _ _, fun h => offStore (F7 (ls (by decide) h)) K9 _ _, fun h => ⟨g, _, _, _, _, rfl, K9.store _ _, hg9, hne9⟩, fun _ => ⟨la (hd ⟨8, .data⟩ (by simp) rfl), _, _, _, rfl, K9.store _ _, rd_store hr9 K9 _ _, hl9, hc9⟩, (bs (bs F10 hg9) hg9), (F11.set_ hne9).set_ hne9, rd_store F12 K9 _ _⟩
  · intro listed A w hall hI
    unfold Cm4I at hI
    obtain ⟨s11, hI⟩ := hI
    obtain ⟨s25, hI⟩ := hI
    obtain ⟨s26, hI⟩ := hI
    obtain ⟨s27, hI⟩ := hI
    obtain ⟨s28, hI⟩ := hI
    obtain ⟨s29, hI⟩ := hI
    obtain ⟨s30, hI⟩ := hI
    obtain ⟨s31, hI⟩ := hI
    obtain ⟨s32, hI⟩ := hI
    obtain ⟨rfl, hI⟩ := hI
    obtain ⟨F0, hI⟩ := hI
    obtain ⟨F1, hI⟩ := hI
    obtain ⟨F2, hI⟩ := hI
    obtain ⟨F3, hI⟩ := hI
    obtain ⟨F4, hI⟩ := hI
    obtain ⟨F5, hI⟩ := hI
    obtain ⟨F6, hI⟩ := hI
    obtain ⟨F7, hI⟩ := hI
    obtain ⟨F8, hI⟩ := hI
    obtain ⟨F9, hI⟩ := hI
    obtain ⟨F10, hI⟩ := hI
    obtain ⟨F11, hI⟩ := hI
    have F12 := hI; clear hI
    obtain rfl := F0 (hall 0 (by decide))
    obtain rfl := F2 (hall 2 (by decide))
    obtain rfl := F3 (hall 3 (by decide))
    obtain rfl := F4 (hall 4 (by decide))
    have P1 := F1 (hall 1 (by decide))
    have P5 := F5 (hall 5 (by decide))
    have P6 := F6 (hall 6 (by decide))
    have P7 := F7 (hall 7 (by decide))
    have P8 := F8 (hall 8 (by decide))
    have P9 := F9 (hall 9 (by decide))
    have HB := F10
    have Q0 := F11
    have Q1 := F12
    exact hQ _ _ _ _ _ _ P9.2 HB
end Go.Proofs.YtemgabmafmehnaaGreatDoor
namespace Go.Proofs.YtemgabmafmehnaaGreatDoor
open Go.Shelf Go.RowKit Go.Proofs.Wide Go.Proofs.Dig
set_option maxRecDepth 100000
set_option maxHeartbeats 8000000
theorem refCmp_zero (an bn k l s : Int) (m1 m2 : Nat) (na nb r1 : Bool) (x u y v r2 : List Int) (w : World) (hmx : max k l = s) (hm1 : IntKind.i64.wrap (s - k) = (m1 : Int)) (hm2 : IntKind.i64.wrap (s - l) = (m2 : Int))
    (GA : Hid (∀ w : World, Calls Tryz.prog 74 #[.int .i64 an] w fun e w' => ∃ z, e = .returned z ∧ OfF na x w' z ∧ Below w.heap.size w w')) (GB : Hid (∀ w : World, Calls Tryz.prog 74 #[.int .i64 bn] w fun e w' => ∃ z, e = .returned z ∧ OfF nb y w' z ∧ Below w.heap.size w w'))
    (UA : Hid (∀ (w : World) (A : Option Addr) (c : Nat), Rd w A x → x.length ≤ c → c ≤ 9223372036854775807 → Calls Tryz.prog 89 #[.agg #[.bool na, .slice A x.length c], .int .i64 ((m1 : Nat) : Int)] w fun e w' => ∃ z, e = .returned z ∧ OfF na u w' z ∧ Below w.heap.size w w')) (UB : Hid (∀ (w : World) (A : Option Addr) (c : Nat), Rd w A y → y.length ≤ c → c ≤ 9223372036854775807 → Calls Tryz.prog 89 #[.agg #[.bool nb, .slice A y.length c], .int .i64 ((m2 : Nat) : Int)] w fun e w' => ∃ z, e = .returned z ∧ OfF nb v w' z ∧ Below w.heap.size w w'))
    (AD : Hid (∀ (w : World) (A B : Option Addr) (c d : Nat), Rd w A u → Rd w B v → u.length ≤ c → v.length ≤ d → Calls Tryz.prog 90 #[.agg #[.bool na, .slice A u.length c], .agg #[.bool (!nb), .slice B v.length d]] w fun e w' => ∃ z, e = .returned z ∧ OfF r1 r2 w' z ∧ Below w.heap.size w w')) (ht : trimL r2 = r2) (hz : ((r2.length : Int) == 0) = true) :
    Calls Tryz.prog 63 #[.int .i64 an, .int .i64 k, .int .i64 bn, .int .i64 l] w fun e w' => e = .returned (.int .i64 (0)) ∧ Below w.heap.size w w' := by
  have HT := Lib.hid ht
  have HM := Lib.hid hm1
  clear ht hm1
  go_enter Tryz.func63, Tryz.ntmps63
  go_wp2_with fail
  refine (GB.out _).mono ?_
  rintro e w1 ⟨v1, rfl, ⟨A1, c1, rfl, hr1, hl1, hc1⟩, hb1⟩
  have B1 : Below w.heap.size w w1 := (by repeat (with_reducible (first | exact Below.refl _ _ | assumption | apply ba | apply bd | apply bdr | (refine bs ?_ (by first | assumption | (simp; done) | (simp; omega))) | (refine bt ?_ (by assumption)))))
  have y1 := B1.size
  go_wp2_with fail
  refine (UB.out _ A1 c1 hr1 hl1 hc1).mono ?_
  rintro e w2 ⟨v2, rfl, ⟨A2, c2, rfl, hr2, hl2, hc2⟩, hb2⟩
  have B2 : Below w.heap.size w w2 := (by repeat (with_reducible (first | exact Below.refl _ _ | assumption | apply ba | apply bd | apply bdr | (refine bs ?_ (by first | assumption | (simp; done) | (simp; omega))) | (refine bt ?_ (by assumption)))))
  have y2 := B2.size
  have HR2 := Lib.hid hr2
  clear hr1 hr2
  go_upto_region 4 with fail
  refine Cm4_region an k s m1 na (!nb) r1 x u v r2 A2 c2 w2.heap.size _ _ _ _ _ _ _ _ _ _ _ _ _ _ _ _ _ _ _ _ _ _ _ _ _ _ _ _ _ _ _ _ _ _ _ _ w _ _ (by repeat (with_reducible (first | exact Below.refl _ _ | assumption | apply ba | apply bd | apply bdr | (refine bs ?_ (by first | assumption | (simp; done) | (simp; omega))) | (refine bt ?_ (by assumption))))) ⟨(by first | (go_simp; done) | (simp [go_sem, *]; done)), (by first | (go_simp; done) | (simp [go_sem, *]; done)), (by first | (go_simp; done) | (simp [go_sem, *]; done)), (by first | (go_simp; done) | (simp [go_sem, *]; done))⟩ (HR2.out.call (by repeat (with_reducible (first | exact Below.refl _ _ | assumption | apply ba | apply bd | apply bdr | (refine bs ?_ (by first | assumption | (simp; done) | (simp; omega))) | (refine bt ?_ (by assumption)))))) hl2 hc2 HM.out GA UA AD ?_
  intro w3 q26 q30 q31 q32 q11 hpost HB
  obtain ⟨g, A3, c3, rfl, K3, hr3, hl3, hc3⟩ := hpost
  obtain ⟨k0, k1, k2, k3⟩ := id K3
  have gl := K3.lt
  have T3 := trim_any A3 r2 c3 w3 hr3 hl3 hc3
  rw [HT.out] at T3
  clear hr3 HR2
  go_wp2_with fail
  refine T3.mono ?_
  rintro e w4 ⟨rfl, rfl⟩
  go_wp2
  go_ret
  exact ⟨rfl, by repeat (with_reducible (first | exact Below.refl _ _ | assumption | apply ba | apply bd | apply bdr | (refine bs ?_ (by first | assumption | (simp; done) | (simp; omega))) | (refine bt ?_ (by assumption))))⟩
theorem refCmp_below (an bn k l s : Int) (m1 m2 : Nat) (na nb r1 : Bool) (x u y v r2 : List Int) (w : World) (hmx : max k l = s) (hm1 : IntKind.i64.wrap (s - k) = (m1 : Int)) (hm2 : IntKind.i64.wrap (s - l) = (m2 : Int))
    (GA : Hid (∀ w : World, Calls Tryz.prog 74 #[.int .i64 an] w fun e w' => ∃ z, e = .returned z ∧ OfF na x w' z ∧ Below w.heap.size w w')) (GB : Hid (∀ w : World, Calls Tryz.prog 74 #[.int .i64 bn] w fun e w' => ∃ z, e = .returned z ∧ OfF nb y w' z ∧ Below w.heap.size w w'))
    (UA : Hid (∀ (w : World) (A : Option Addr) (c : Nat), Rd w A x → x.length ≤ c → c ≤ 9223372036854775807 → Calls Tryz.prog 89 #[.agg #[.bool na, .slice A x.length c], .int .i64 ((m1 : Nat) : Int)] w fun e w' => ∃ z, e = .returned z ∧ OfF na u w' z ∧ Below w.heap.size w w')) (UB : Hid (∀ (w : World) (A : Option Addr) (c : Nat), Rd w A y → y.length ≤ c → c ≤ 9223372036854775807 → Calls Tryz.prog 89 #[.agg #[.bool nb, .slice A y.length c], .int .i64 ((m2 : Nat) : Int)] w fun e w' => ∃ z, e = .returned z ∧ OfF nb v w' z ∧ Below w.heap.size w w'))
    (AD : Hid (∀ (w : World) (A B : Option Addr) (c d : Nat), Rd w A u → Rd w B v → u.length ≤ c → v.length ≤ d → Calls Tryz.prog 90 #[.agg #[.bool na, .slice A u.length c], .agg #[.bool (!nb), .slice B v.length d]] w fun e w' => ∃ z, e = .returned z ∧ OfF r1 r2 w' z ∧ Below w.heap.size w w')) (ht : trimL r2 = r2) (hz : ((r2.length : Int) == 0) = false) (hs : r1 = true) :
    Calls Tryz.prog 63 #[.int .i64 an, .int .i64 k, .int .i64 bn, .int .i64 l] w fun e w' => e = .returned (.int .i64 (-1)) ∧ Below w.heap.size w w' := by
  have HT := Lib.hid ht
  have HM := Lib.hid hm1
  clear ht hm1
  go_enter Tryz.func63, Tryz.ntmps63
  go_wp2_with fail
  refine (GB.out _).mono ?_
  rintro e w1 ⟨v1, rfl, ⟨A1, c1, rfl, hr1, hl1, hc1⟩, hb1⟩
  have B1 : Below w.heap.size w w1 := (by repeat (with_reducible (first | exact Below.refl _ _ | assumption | apply ba | apply bd | apply bdr | (refine bs ?_ (by first | assumption | (simp; done) | (simp; omega))) | (refine bt ?_ (by assumption)))))
  have y1 := B1.size
  go_wp2_with fail
  refine (UB.out _ A1 c1 hr1 hl1 hc1).mono ?_
  rintro e w2 ⟨v2, rfl, ⟨A2, c2, rfl, hr2, hl2, hc2⟩, hb2⟩
  have B2 : Below w.heap.size w w2 := (by repeat (with_reducible (first | exact Below.refl _ _ | assumption | apply ba | apply bd | apply bdr | (refine bs ?_ (by first | assumption | (simp; done) | (simp; omega))) | (refine bt ?_ (by assumption)))))
  have y2 := B2.size
  have HR2 := Lib.hid hr2
  clear hr1 hr2
  go_upto_region 4 with fail
  refine Cm4_region an k s m1 na (!nb) r1 x u v r2 A2 c2 w2.heap.size _ _ _ _ _ _ _ _ _ _ _ _ _ _ _ _ _ _ _ _ _ _ _ _ _ _ _ _ _ _ _ _ _ _ _ _ w _ _ (by repeat (with_reducible (first | exact Below.refl _ _ | assumption | apply ba | apply bd | apply bdr | (refine bs ?_ (by first | assumption | (simp; done) | (simp; omega))) | (refine bt ?_ (by assumption))))) ⟨(by first | (go_simp; done) | (simp [go_sem, *]; done)), (by first | (go_simp; done) | (simp [go_sem, *]; done)), (by first | (go_simp; done) | (simp [go_sem, *]; done)), (by first | (go_simp; done) | (simp [go_sem, *]; done))⟩ (HR2.out.call (by repeat (with_reducible (first | exact Below.refl _ _ | assumption | apply ba | apply bd | apply bdr | (refine bs ?_ (by first | assumption | (simp; done) | (simp; omega))) | (refine bt ?_ (by assumption)))))) hl2 hc2 HM.out GA UA AD ?_
  intro w3 q26 q30 q31 q32 q11 hpost HB
  obtain ⟨g, A3, c3, rfl, K3, hr3, hl3, hc3⟩ := hpost
  obtain ⟨k0, k1, k2, k3⟩ := id K3
  have gl := K3.lt
  have T3 := trim_any A3 r2 c3 w3 hr3 hl3 hc3
  rw [HT.out] at T3
  clear hr3 HR2
  go_wp2_with fail
  refine T3.mono ?_
  rintro e w4 ⟨rfl, rfl⟩
  go_wp2
  go_ret
  exact ⟨rfl, by repeat (with_reducible (first | exact Below.refl _ _ | assumption | apply ba | apply bd | apply bdr | (refine bs ?_ (by first | assumption | (simp; done) | (simp; omega))) | (refine bt ?_ (by assumption))))⟩
theorem refCmp_above (an bn k l s : Int) (m1 m2 : Nat) (na nb r1 : Bool) (x u y v r2 : List Int) (w : World) (hmx : max k l = s) (hm1 : IntKind.i64.wrap (s - k) = (m1 : Int)) (hm2 : IntKind.i64.wrap (s - l) = (m2 : Int))
    (GA : Hid (∀ w : World, Calls Tryz.prog 74 #[.int .i64 an] w fun e w' => ∃ z, e = .returned z ∧ OfF na x w' z ∧ Below w.heap.size w w')) (GB : Hid (∀ w : World, Calls Tryz.prog 74 #[.int .i64 bn] w fun e w' => ∃ z, e = .returned z ∧ OfF nb y w' z ∧ Below w.heap.size w w'))
    (UA : Hid (∀ (w : World) (A : Option Addr) (c : Nat), Rd w A x → x.length ≤ c → c ≤ 9223372036854775807 → Calls Tryz.prog 89 #[.agg #[.bool na, .slice A x.length c], .int .i64 ((m1 : Nat) : Int)] w fun e w' => ∃ z, e = .returned z ∧ OfF na u w' z ∧ Below w.heap.size w w')) (UB : Hid (∀ (w : World) (A : Option Addr) (c : Nat), Rd w A y → y.length ≤ c → c ≤ 9223372036854775807 → Calls Tryz.prog 89 #[.agg #[.bool nb, .slice A y.length c], .int .i64 ((m2 : Nat) : Int)] w fun e w' => ∃ z, e = .returned z ∧ OfF nb v w' z ∧ Below w.heap.size w w'))
    (AD : Hid (∀ (w : World) (A B : Option Addr) (c d : Nat), Rd w A u → Rd w B v → u.length ≤ c → v.length ≤ d → Calls Tryz.prog 90 #[.agg #[.bool na, .slice A u.length c], .agg #[.bool (!nb), .slice B v.length d]] w fun e w' => ∃ z, e = .returned z ∧ OfF r1 r2 w' z ∧ Below w.heap.size w w')) (ht : trimL r2 = r2) (hz : ((r2.length : Int) == 0) = false) (hs : r1 = false) :
    Calls Tryz.prog 63 #[.int .i64 an, .int .i64 k, .int .i64 bn, .int .i64 l] w fun e w' => e = .returned (.int .i64 (1)) ∧ Below w.heap.size w w' := by
  have HT := Lib.hid ht
  have HM := Lib.hid hm1
  clear ht hm1
  go_enter Tryz.func63, Tryz.ntmps63
  go_wp2_with fail
  refine (GB.out _).mono ?_
  rintro e w1 ⟨v1, rfl, ⟨A1, c1, rfl, hr1, hl1, hc1⟩, hb1⟩
  have B1 : Below w.heap.size w w1 := (by repeat (with_reducible (first | exact Below.refl _ _ | assumption | apply ba | apply bd | apply bdr | (refine bs ?_ (by first | assumption | (simp; done) | (simp; omega))) | (refine bt ?_ (by assumption)))))
  have y1 := B1.size
  go_wp2_with fail
  refine (UB.out _ A1 c1 hr1 hl1 hc1).mono ?_
  rintro e w2 ⟨v2, rfl, ⟨A2, c2, rfl, hr2, hl2, hc2⟩, hb2⟩
  have B2 : Below w.heap.size w w2 := (by repeat (with_reducible (first | exact Below.refl _ _ | assumption | apply ba | apply bd | apply bdr | (refine bs ?_ (by first | assumption | (simp; done) | (simp; omega))) | (refine bt ?_ (by assumption)))))
  have y2 := B2.size
  have HR2 := Lib.hid hr2
  clear hr1 hr2
  go_upto_region 4 with fail
  refine Cm4_region an k s m1 na (!nb) r1 x u v r2 A2 c2 w2.heap.size _ _ _ _ _ _ _ _ _ _ _ _ _ _ _ _ _ _ _ _ _ _ _ _ _ _ _ _ _ _ _ _ _ _ _ _ w _ _ (by repeat (with_reducible (first | exact Below.refl _ _ | assumption | apply ba | apply bd | apply bdr | (refine bs ?_ (by first | assumption | (simp; done) | (simp; omega))) | (refine bt ?_ (by assumption))))) ⟨(by first | (go_simp; done) | (simp [go_sem, *]; done)), (by first | (go_simp; done) | (simp [go_sem, *]; done)), (by first | (go_simp; done) | (simp [go_sem, *]; done)), (by first | (go_simp; done) | (simp [go_sem, *]; done))⟩ (HR2.out.call (by repeat (with_reducible (first | exact Below.refl _ _ | assumption | apply ba | apply bd | apply bdr | (refine bs ?_ (by first | assumption | (simp; done) | (simp; omega))) | (refine bt ?_ (by assumption)))))) hl2 hc2 HM.out GA UA AD ?_
  intro w3 q26 q30 q31 q32 q11 hpost HB
  obtain ⟨g, A3, c3, rfl, K3, hr3, hl3, hc3⟩ := hpost
  obtain ⟨k0, k1, k2, k3⟩ := id K3
  have gl := K3.lt
  have T3 := trim_any A3 r2 c3 w3 hr3 hl3 hc3
  rw [HT.out] at T3
  clear hr3 HR2
  go_wp2_with fail
  refine T3.mono ?_
  rintro e w4 ⟨rfl, rfl⟩
  go_wp2
  go_ret
  exact ⟨rfl, by repeat (with_reducible (first | exact Below.refl _ _ | assumption | apply ba | apply bd | apply bdr | (refine bs ?_ (by first | assumption | (simp; done) | (simp; omega))) | (refine bt ?_ (by assumption))))⟩
theorem refCmpN_any (an bn : Int) (k l : Nat) (h : RightZ an k) (h' : RightZ bn l) : Hid (Gives 63 #[.int .i64 an, .int .i64 (k : Int), .int .i64 bn, .int .i64 (l : Int)] (.int .i64 (cmpZ an k bn l))) := gives_unfold fun w => by
  obtain ⟨a1, a2, a3, _⟩ := h
  obtain ⟨b1, b2, b3, _⟩ := h'
  obtain ⟨s, hs⟩ : ∃ s, sc k l = s := ⟨_, rfl⟩
  have s1 : k ≤ s := by unfold sc at hs; omega
  have s2 : l ≤ s := by unfold sc at hs; omega
  have s9 : s ≤ 9 := by unfold sc at hs; omega
  have hx := digs_len18 (u := an.natAbs) (by omega)
  have hy := digs_len18 (u := bn.natAbs) (by omega)
  have hu := upL_len (digs an.natAbs) (s - k)
  have hv := upL_len (digs bn.natAbs) (s - l)
  have ha : InI an := ⟨by omega, by omega⟩
  have hb : InI bn := ⟨by omega, by omega⟩
  have hmx : max (k : Int) (l : Int) = (s : Int) := by unfold sc at hs; omega
  have hm1 : IntKind.i64.wrap ((s : Int) - (k : Int)) = ((s - k : Nat) : Int) := by rw [IntKind.wrap_i64]; omega
  have hm2 : IntKind.i64.wrap ((s : Int) - (l : Int)) = ((s - l : Nat) : Int) := by rw [IntKind.wrap_i64]; omega
  have e := cmpB_eq an k bn l
  unfold cmpB at e
  rw [hs] at e
  obtain ⟨r, hr⟩ : ∃ r, addB (decide (an < 0)) (!decide (bn < 0)) (upL (digs an.natAbs) (s - k)) (upL (digs bn.natAbs) (s - l)) = r := ⟨_, rfl⟩
  have hcn := addB_canon (decide (an < 0)) (!decide (bn < 0)) (upL (digs an.natAbs) (s - k)) (upL (digs bn.natAbs) (s - l))
  have AD : ∀ (w : World) (A B : Option Addr) (c d : Nat), Rd w A (upL (digs an.natAbs) (s - k)) → Rd w B (upL (digs bn.natAbs) (s - l)) → (upL (digs an.natAbs) (s - k)).length ≤ c → (upL (digs bn.natAbs) (s - l)).length ≤ d → Calls Tryz.prog 90 #[.agg #[.bool (decide (an < 0)), .slice A (upL (digs an.natAbs) (s - k)).length c], .agg #[.bool (!decide (bn < 0)), .slice B (upL (digs bn.natAbs) (s - l)).length d]] w fun e w' => ∃ z, e = .returned z ∧ OfF r.1 r.2 w' z ∧ Below w.heap.size w w' := fun w A B c d p1 p2 p3 p4 => by
    rw [← hr]
    exact refAdd_any _ _ A B _ _ c d w (upL_canon (digs_canon _) _) (upL_canon (digs_canon _) _) p1 p2 p3 p4 (by omega) (by omega)
  rw [hr] at e hcn
  have UA := Lib.hid fun (w : World) (A : Option Addr) (c : Nat) (p1 : Rd w A (digs an.natAbs)) (p2 : (digs an.natAbs).length ≤ c) (p3 : c ≤ 9223372036854775807) => refUp_any (decide (an < 0)) A (digs an.natAbs) c (s - k) w p1 p2 p3 (by omega) (by omega)
  have UB := Lib.hid fun (w : World) (A : Option Addr) (c : Nat) (p1 : Rd w A (digs bn.natAbs)) (p2 : (digs bn.natAbs).length ≤ c) (p3 : c ≤ 9223372036854775807) => refUp_any (decide (bn < 0)) A (digs bn.natAbs) c (s - l) w p1 p2 p3 (by omega) (by omega)
  rw [← e]
  by_cases hz : r.2 = []
  · rw [if_pos hz]
    exact refCmp_zero an bn k l s _ _ _ _ r.1 _ _ _ _ r.2 w hmx hm1 hm2 (Lib.hid (of_g an ha)) (Lib.hid (of_g bn hb)) UA UB (Lib.hid AD) (trim_canon hcn) (by rw [hz]; rfl)
  · rw [if_neg hz]
    have hl : ((r.2.length : Int) == 0) = false := by
      have := List.length_pos_iff.2 hz
      simp; omega
    cases h1 : r.1 with
    | true =>
      rw [if_pos rfl]
      rw [h1] at AD
      exact refCmp_below an bn k l s _ _ _ _ true _ _ _ _ r.2 w hmx hm1 hm2 (Lib.hid (of_g an ha)) (Lib.hid (of_g bn hb)) UA UB (Lib.hid AD) (trim_canon hcn) hl rfl
    | false =>
      rw [if_neg (by decide)]
      rw [h1] at AD
      exact refCmp_above an bn k l s _ _ _ _ false _ _ _ _ r.2 w hmx hm1 hm2 (Lib.hid (of_g an ha)) (Lib.hid (of_g bn hb)) UA UB (Lib.hid AD) (trim_canon hcn) hl rfl
end Go.Proofs.YtemgabmafmehnaaGreatDoor
