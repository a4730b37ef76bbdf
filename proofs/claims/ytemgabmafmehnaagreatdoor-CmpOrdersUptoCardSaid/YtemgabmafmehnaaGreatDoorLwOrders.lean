/- The statement CmpOrders. No condition beyond what the theorems state. -/
import Derived.Test.YtemgabmafmehnaaGreatDoorLwWake4
import Derived.Test.YtemgabmafmehnaaGreatDoorLwBack
namespace Go.Proofs.YtemgabmafmehnaaGreatDoor
open Go.Shelf Go.RowKit Go.Lib Go.Proofs.Wide Go.Proofs.Dig
set_option maxRecDepth 100000
set_option maxHeartbeats 8000000
theorem lt_iff (a b : UInt8) : a < b ↔ a.toNat < b.toNat := UInt8.lt_iff_toNat_lt
theorem cb_cons (a b : UInt8) (ar br : List UInt8) : compareBytes (a :: ar) (b :: br) = if a.toNat < b.toNat then -1 else if b.toNat < a.toNat then 1 else compareBytes ar br := by
  simp only [compareBytes, lt_iff]
theorem cb_range : ∀ (a b : List UInt8), compareBytes a b = -1 ∨ compareBytes a b = 0 ∨ compareBytes a b = 1
  | [], [] => .inr (.inl rfl)
  | [], _ :: _ => .inl rfl
  | _ :: _, [] => .inr (.inr rfl)
  | a :: ar, b :: br => by
    rw [cb_cons]
    split
    · exact .inl rfl
    · split
      · exact .inr (.inr rfl)
      · exact cb_range ar br
theorem cb_anti : ∀ (a b : List UInt8), compareBytes b a = - compareBytes a b
  | [], [] => rfl
  | [], _ :: _ => rfl
  | _ :: _, [] => rfl
  | a :: ar, b :: br => by
    rw [cb_cons, cb_cons, cb_anti ar br]
    split
    · split
      · omega
      · rfl
    · split <;> rfl
theorem u8_eq {a b : UInt8} (h : a.toNat = b.toNat) : a = b := UInt8.toNat_inj.1 h
theorem cb_zero : ∀ (a b : List UInt8), compareBytes a b = 0 → a = b
  | [], [], _ => rfl
  | [], _ :: _, h => by cases h
  | _ :: _, [], h => by cases h
  | a :: ar, b :: br, h => by
    rw [cb_cons] at h
    split at h
    · cases h
    · split at h
      · cases h
      · rw [u8_eq (by omega : a.toNat = b.toNat), cb_zero ar br h]
theorem cb_self : ∀ (a : List UInt8), compareBytes a a = 0
  | [] => rfl
  | a :: ar => by rw [cb_cons, if_neg (by omega), if_neg (by omega), cb_self ar]
theorem cb_trans : ∀ (a b c : List UInt8), compareBytes a b < 0 → compareBytes b c < 0 → compareBytes a c < 0
  | [], [], _, h, _ => by cases h
  | [], _ :: _, [], _, h => by cases h
  | [], _ :: _, _ :: _, _, _ => by show (-1 : Int) < 0; decide
  | _ :: _, [], _, h, _ => by cases h
  | _ :: _, _ :: _, [], _, h => by cases h
  | x :: a, y :: b, z :: c, h1, h2 => by
    rw [cb_cons] at h1 h2 ⊢
    by_cases e1 : x.toNat < y.toNat
    · by_cases e2 : y.toNat < z.toNat
      · rw [if_pos (by omega)]; decide
      · rw [if_neg e2] at h2
        by_cases e3 : z.toNat < y.toNat
        · rw [if_pos e3] at h2; exact absurd h2 (by decide)
        · rw [if_pos (by omega)]; decide
    · rw [if_neg e1] at h1
      by_cases e4 : y.toNat < x.toNat
      · rw [if_pos e4] at h1; exact absurd h1 (by decide)
      · rw [if_neg e4] at h1
        by_cases e2 : y.toNat < z.toNat
        · rw [if_pos (by omega)]; decide
        · rw [if_neg e2] at h2
          by_cases e3 : z.toNat < y.toNat
          · rw [if_pos e3] at h2; exact absurd h2 (by decide)
          · rw [if_neg e3] at h2
            rw [if_neg (by omega), if_neg (by omega)]
            exact cb_trans a b c h1 h2
theorem sc_comm' (k l : Nat) : sc k l = sc l k := by unfold sc; omega
theorem lx_v9 (n : Int) {k l : Nat} (hk : k ≤ 9) (hl : l ≤ 9) : lx n k l * 10 ^ (9 - sc k l) = v9 n k := by
  unfold lx; exact v9_at n k (sc k l) (by unfold sc; omega) (by unfold sc; omega)
theorem lx_v9' (m : Int) {k l : Nat} (hk : k ≤ 9) (hl : l ≤ 9) : lx m l k * 10 ^ (9 - sc k l) = v9 m l := by rw [sc_comm']; exact lx_v9 m hl hk
theorem cmp_eq {n m : Int} {k l : Nat} (hk : k ≤ 9) (hl : l ≤ 9) : cmpZ n k m l = if v9 n k < v9 m l then -1 else if v9 n k = v9 m l then 0 else 1 := by
  have p := ten_pos (9 - sc k l)
  unfold cmpZ
  rw [← lx_v9 n hk hl, ← lx_v9' m hk hl]
  have h1 : lx n k l < lx m l k ↔ lx n k l * 10 ^ (9 - sc k l) < lx m l k * 10 ^ (9 - sc k l) := ⟨fun h => Int.mul_lt_mul_of_pos_right h p, fun h => Int.lt_of_mul_lt_mul_right h (Int.le_of_lt p)⟩
  have h2 : lx n k l = lx m l k ↔ lx n k l * 10 ^ (9 - sc k l) = lx m l k * 10 ^ (9 - sc k l) := ⟨fun h => by rw [h], fun h => Int.eq_of_mul_eq_mul_right (Int.ne_of_gt p) h⟩
  simp only [h1, h2]
/-- A value's group, and what it is ordered by there. -/
def grp : AV → Nat
  | .int _ => 0
  | .dec _ _ => 0
  | .str _ => 1
  | .raw _ => 1
  | .boo _ => 2
def nkey : AV → Int
  | .int n => v9 n 0
  | .dec n c => v9 n c
  | .boo b => if b then 1 else 0
  | _ => 0
def tkey : AV → List UInt8
  | .str l => l
  | .raw l => l
  | _ => []
def cmp3 (x y : Int) : Int := if x < y then -1 else if x = y then 0 else 1
theorem order_key (a b : AV) (ha : a.ok) (hb : b.ok) : orderZ a b = if grp a = grp b then some (if grp a = 1 then compareBytes (tkey a) (tkey b) else cmp3 (nkey a) (nkey b)) else none := by
  cases a with
  | int n =>
    cases b with
    | int m => show some (cmpZ n 0 m 0) = some (cmp3 (v9 n 0) (v9 m 0)); rw [cmp_eq (by omega) (by omega)]; rfl
    | dec m d => show some (cmpZ n 0 m d) = some (cmp3 (v9 n 0) (v9 m d)); rw [cmp_eq (by omega) hb.2.2.1]; rfl
    | str u => rfl
    | boo y => rfl
    | raw u => rfl
  | dec n c =>
    cases b with
    | int m => show some (cmpZ n c m 0) = some (cmp3 (v9 n c) (v9 m 0)); rw [cmp_eq ha.2.2.1 (by omega)]; rfl
    | dec m d => show some (cmpZ n c m d) = some (cmp3 (v9 n c) (v9 m d)); rw [cmp_eq ha.2.2.1 hb.2.2.1]; rfl
    | str u => rfl
    | boo y => rfl
    | raw u => rfl
  | str l => cases b <;> rfl
  | boo x =>
    cases b with
    | boo y => cases x <;> cases y <;> rfl
    | int m => rfl
    | dec m d => rfl
    | str u => rfl
    | raw u => rfl
  | raw l => cases b <;> rfl
theorem c3_range (x y : Int) : cmp3 x y = -1 ∨ cmp3 x y = 0 ∨ cmp3 x y = 1 := by
  unfold cmp3; split
  · exact .inl rfl
  · split
    · exact .inr (.inl rfl)
    · exact .inr (.inr rfl)
theorem order_self (a : AV) (ha : a.ok) : orderZ a a = some 0 := by
  rw [order_key a a ha ha, if_pos rfl]
  split
  · rw [cb_self]
  · unfold cmp3; rw [if_neg (by omega), if_pos rfl]
theorem order_turn (a b : AV) (ha : a.ok) (hb : b.ok) : orderZ b a = (orderZ a b).map fun r => -r := by
  rw [order_key a b ha hb, order_key b a hb ha]
  by_cases h : grp a = grp b
  · rw [if_pos h, if_pos h.symm]
    by_cases h1 : grp a = 1
    · rw [if_pos h1, if_pos (h ▸ h1), cb_anti]; rfl
    · rw [if_neg h1, if_neg (h ▸ h1)]
      show some (cmp3 (nkey b) (nkey a)) = some (-(cmp3 (nkey a) (nkey b)))
      congr 1
      unfold cmp3
      repeat' split
      all_goals omega
  · rw [if_neg h, if_neg (Ne.symm h)]; rfl
theorem order_none {a b c : AV} (ha : a.ok) (hb : b.ok) (hc : c.ok) (h : orderZ a b = none) : orderZ b c = none ∨ orderZ a c = none := by
  rw [order_key a b ha hb] at h
  rw [order_key b c hb hc, order_key a c ha hc]
  by_cases h1 : grp b = grp c
  · right
    rw [if_neg]
    intro h2
    rw [if_pos (h2.trans h1.symm)] at h
    cases h
  · left; rw [if_neg h1]
theorem order_third {a b c : AV} {x z : Int} (ha : a.ok) (hb : b.ok) (hc : c.ok) (h1 : orderZ a b = some x) (h2 : orderZ b c = some z) :
    ∃ w, orderZ a c = some w ∧ (0 < x ∨ 0 < z ∨ w ≤ 0) ∧ (x ≠ 0 ∨ w = z) ∧ (0 ≤ x ∨ 0 < z ∨ w < 0) := by
  rw [order_key a b ha hb] at h1
  rw [order_key b c hb hc] at h2
  rw [order_key a c ha hc]
  by_cases g1 : grp a = grp b
  · by_cases g2 : grp b = grp c
    · rw [if_pos g1] at h1
      rw [if_pos g2] at h2
      rw [if_pos (g1.trans g2)]
      refine ⟨_, rfl, ?_⟩
      injection h1 with h1
      injection h2 with h2
      by_cases g : grp a = 1
      · rw [if_pos g] at h1 ⊢
        rw [if_pos (g1 ▸ g)] at h2
        have r1 := cb_range (tkey a) (tkey b)
        have r2 := cb_range (tkey b) (tkey c)
        rcases r1 with r1 | r1 | r1
        · rcases r2 with r2 | r2 | r2
          · have := cb_trans _ _ _ (by rw [r1]; decide) (by rw [r2]; decide : compareBytes (tkey b) (tkey c) < 0)
            omega
          · rw [← cb_zero _ _ r2]; omega
          · omega
        · rw [cb_zero _ _ r1]; omega
        · omega
      · rw [if_neg g] at h1 ⊢
        rw [if_neg (g1 ▸ g)] at h2
        subst h1; subst h2
        unfold cmp3
        repeat' split
        all_goals omega
    · rw [if_neg g2] at h2; cases h2
  · rw [if_neg g1] at h1; cases h1
theorem orders_no1 (k1 n1 c1 : Int) (s1 : ByteArray) (b1 : Bool) (k2 n2 c2 : Int) (s2 : ByteArray) (b2 : Bool) (k3 n3 c3 : Int) (s3 : ByteArray) (b3 : Bool)  (w : World) (hT : TT w) (R1 : Hid (Gives 13 #[.agg #[.int .i64 k1, .int .i64 n1, .int .i64 c1, .string s1, .bool b1]] (.bool false))) : Calls Tryz.prog 10 #[.agg #[.int .i64 k1, .int .i64 n1, .int .i64 c1, .string s1, .bool b1], .agg #[.int .i64 k2, .int .i64 n2, .int .i64 c2, .string s2, .bool b2], .agg #[.int .i64 k3, .int .i64 n3, .int .i64 c3, .string s3, .bool b3]] w fun e w' => e = .returned (.bool true) ∧ Below w.heap.size w w' := by
  have HT := Lib.hid hT
  clear hT
  have WK := wake4
  go_enter Tryz.func10, Tryz.ntmps10
  go_wp2_with fail
  refine (WK.out.call HT.out (by repeat (with_reducible (first | exact Below.refl _ _ | assumption | apply ba | apply bd | apply bdr | (refine bs ?_ (by first | assumption | (simp; done) | (simp; omega))) | (refine bt ?_ (by assumption)))))).mono ?_
  rintro e w1 ⟨rfl, hb1⟩; have B1 : Below w.heap.size w w1 := (by repeat (with_reducible (first | exact Below.refl _ _ | assumption | apply ba | apply bd | apply bdr | (refine bs ?_ (by first | assumption | (simp; done) | (simp; omega))) | (refine bt ?_ (by assumption))))); have y1 := B1.size; have hc1_0 := fun o => (bcell hb1).1 (w.heap.size) o (by first | (simp; done) | assumption | (simp; omega)); have hf1_0 := fun o => (bcell hb1).2 (w.heap.size) o (by first | (simp; done) | assumption | (simp; omega)); have z1_0 : w.heap.size < w1.heap.size := zz hb1 (by first | (simp; done) | assumption | (simp; omega)); have hc1_1 := fun o => (bcell hb1).1 (w.heap.size + 1) o (by first | (simp; done) | assumption | (simp; omega)); have hf1_1 := fun o => (bcell hb1).2 (w.heap.size + 1) o (by first | (simp; done) | assumption | (simp; omega)); have z1_1 : w.heap.size + 1 < w1.heap.size := zz hb1 (by first | (simp; done) | assumption | (simp; omega)); have hc1_2 := fun o => (bcell hb1).1 (w.heap.size + 1 + 1) o (by first | (simp; done) | assumption | (simp; omega)); have hf1_2 := fun o => (bcell hb1).2 (w.heap.size + 1 + 1) o (by first | (simp; done) | assumption | (simp; omega)); have z1_2 : w.heap.size + 1 + 1 < w1.heap.size := zz hb1 (by first | (simp; done) | assumption | (simp; omega))
  go_wp2_with fail
  refine (R1.out.call _).mono ?_
  rintro e w2 ⟨rfl, hb2⟩; have B2 : Below w.heap.size w w2 := (by repeat (with_reducible (first | exact Below.refl _ _ | assumption | apply ba | apply bd | apply bdr | (refine bs ?_ (by first | assumption | (simp; done) | (simp; omega))) | (refine bt ?_ (by assumption))))); have y2 := B2.size; have hc2_0 := fun o => (bcell hb2).1 (w.heap.size) o (by first | (simp; done) | assumption | (simp; omega)); have hf2_0 := fun o => (bcell hb2).2 (w.heap.size) o (by first | (simp; done) | assumption | (simp; omega)); have z2_0 : w.heap.size < w2.heap.size := zz hb2 (by first | (simp; done) | assumption | (simp; omega)); have hc2_1 := fun o => (bcell hb2).1 (w.heap.size + 1) o (by first | (simp; done) | assumption | (simp; omega)); have hf2_1 := fun o => (bcell hb2).2 (w.heap.size + 1) o (by first | (simp; done) | assumption | (simp; omega)); have z2_1 : w.heap.size + 1 < w2.heap.size := zz hb2 (by first | (simp; done) | assumption | (simp; omega)); have hc2_2 := fun o => (bcell hb2).1 (w.heap.size + 1 + 1) o (by first | (simp; done) | assumption | (simp; omega)); have hf2_2 := fun o => (bcell hb2).2 (w.heap.size + 1 + 1) o (by first | (simp; done) | assumption | (simp; omega)); have z2_2 : w.heap.size + 1 + 1 < w2.heap.size := zz hb2 (by first | (simp; done) | assumption | (simp; omega))
  go_wp2_with fail
  refine (WK.out.call HT.out (by repeat (with_reducible (first | exact Below.refl _ _ | assumption | apply ba | apply bd | apply bdr | (refine bs ?_ (by first | assumption | (simp; done) | (simp; omega))) | (refine bt ?_ (by assumption)))))).mono ?_
  rintro e w9 ⟨rfl, hb9⟩; have B9 : Below w.heap.size w w9 := (by repeat (with_reducible (first | exact Below.refl _ _ | assumption | apply ba | apply bd | apply bdr | (refine bs ?_ (by first | assumption | (simp; done) | (simp; omega))) | (refine bt ?_ (by assumption))))); have y9 := B9.size; have hc9_0 := fun o => (bcell hb9).1 (w.heap.size) o (by first | (simp; done) | assumption | (simp; omega)); have hf9_0 := fun o => (bcell hb9).2 (w.heap.size) o (by first | (simp; done) | assumption | (simp; omega)); have z9_0 : w.heap.size < w9.heap.size := zz hb9 (by first | (simp; done) | assumption | (simp; omega)); have hc9_1 := fun o => (bcell hb9).1 (w.heap.size + 1) o (by first | (simp; done) | assumption | (simp; omega)); have hf9_1 := fun o => (bcell hb9).2 (w.heap.size + 1) o (by first | (simp; done) | assumption | (simp; omega)); have z9_1 : w.heap.size + 1 < w9.heap.size := zz hb9 (by first | (simp; done) | assumption | (simp; omega)); have hc9_2 := fun o => (bcell hb9).1 (w.heap.size + 1 + 1) o (by first | (simp; done) | assumption | (simp; omega)); have hf9_2 := fun o => (bcell hb9).2 (w.heap.size + 1 + 1) o (by first | (simp; done) | assumption | (simp; omega)); have z9_2 : w.heap.size + 1 + 1 < w9.heap.size := zz hb9 (by first | (simp; done) | assumption | (simp; omega))
  go_wp2
  go_ret
  exact ⟨rfl, by repeat (with_reducible (first | exact Below.refl _ _ | assumption | apply ba | apply bd | apply bdr | (refine bs ?_ (by first | assumption | (simp; done) | (simp; omega))) | (refine bt ?_ (by assumption))))⟩
theorem orders_no2 (k1 n1 c1 : Int) (s1 : ByteArray) (b1 : Bool) (k2 n2 c2 : Int) (s2 : ByteArray) (b2 : Bool) (k3 n3 c3 : Int) (s3 : ByteArray) (b3 : Bool)  (w : World) (hT : TT w) (R1 : Hid (Gives 13 #[.agg #[.int .i64 k1, .int .i64 n1, .int .i64 c1, .string s1, .bool b1]] (.bool true))) (R2 : Hid (Gives 13 #[.agg #[.int .i64 k2, .int .i64 n2, .int .i64 c2, .string s2, .bool b2]] (.bool false))) : Calls Tryz.prog 10 #[.agg #[.int .i64 k1, .int .i64 n1, .int .i64 c1, .string s1, .bool b1], .agg #[.int .i64 k2, .int .i64 n2, .int .i64 c2, .string s2, .bool b2], .agg #[.int .i64 k3, .int .i64 n3, .int .i64 c3, .string s3, .bool b3]] w fun e w' => e = .returned (.bool true) ∧ Below w.heap.size w w' := by
  have HT := Lib.hid hT
  clear hT
  have WK := wake4
  go_enter Tryz.func10, Tryz.ntmps10
  go_wp2_with fail
  refine (WK.out.call HT.out (by repeat (with_reducible (first | exact Below.refl _ _ | assumption | apply ba | apply bd | apply bdr | (refine bs ?_ (by first | assumption | (simp; done) | (simp; omega))) | (refine bt ?_ (by assumption)))))).mono ?_
  rintro e w1 ⟨rfl, hb1⟩; have B1 : Below w.heap.size w w1 := (by repeat (with_reducible (first | exact Below.refl _ _ | assumption | apply ba | apply bd | apply bdr | (refine bs ?_ (by first | assumption | (simp; done) | (simp; omega))) | (refine bt ?_ (by assumption))))); have y1 := B1.size; have hc1_0 := fun o => (bcell hb1).1 (w.heap.size) o (by first | (simp; done) | assumption | (simp; omega)); have hf1_0 := fun o => (bcell hb1).2 (w.heap.size) o (by first | (simp; done) | assumption | (simp; omega)); have z1_0 : w.heap.size < w1.heap.size := zz hb1 (by first | (simp; done) | assumption | (simp; omega)); have hc1_1 := fun o => (bcell hb1).1 (w.heap.size + 1) o (by first | (simp; done) | assumption | (simp; omega)); have hf1_1 := fun o => (bcell hb1).2 (w.heap.size + 1) o (by first | (simp; done) | assumption | (simp; omega)); have z1_1 : w.heap.size + 1 < w1.heap.size := zz hb1 (by first | (simp; done) | assumption | (simp; omega)); have hc1_2 := fun o => (bcell hb1).1 (w.heap.size + 1 + 1) o (by first | (simp; done) | assumption | (simp; omega)); have hf1_2 := fun o => (bcell hb1).2 (w.heap.size + 1 + 1) o (by first | (simp; done) | assumption | (simp; omega)); have z1_2 : w.heap.size + 1 + 1 < w1.heap.size := zz hb1 (by first | (simp; done) | assumption | (simp; omega))
  go_wp2_with fail
  refine (R1.out.call _).mono ?_
  rintro e w2 ⟨rfl, hb2⟩; have B2 : Below w.heap.size w w2 := (by repeat (with_reducible (first | exact Below.refl _ _ | assumption | apply ba | apply bd | apply bdr | (refine bs ?_ (by first | assumption | (simp; done) | (simp; omega))) | (refine bt ?_ (by assumption))))); have y2 := B2.size; have hc2_0 := fun o => (bcell hb2).1 (w.heap.size) o (by first | (simp; done) | assumption | (simp; omega)); have hf2_0 := fun o => (bcell hb2).2 (w.heap.size) o (by first | (simp; done) | assumption | (simp; omega)); have z2_0 : w.heap.size < w2.heap.size := zz hb2 (by first | (simp; done) | assumption | (simp; omega)); have hc2_1 := fun o => (bcell hb2).1 (w.heap.size + 1) o (by first | (simp; done) | assumption | (simp; omega)); have hf2_1 := fun o => (bcell hb2).2 (w.heap.size + 1) o (by first | (simp; done) | assumption | (simp; omega)); have z2_1 : w.heap.size + 1 < w2.heap.size := zz hb2 (by first | (simp; done) | assumption | (simp; omega)); have hc2_2 := fun o => (bcell hb2).1 (w.heap.size + 1 + 1) o (by first | (simp; done) | assumption | (simp; omega)); have hf2_2 := fun o => (bcell hb2).2 (w.heap.size + 1 + 1) o (by first | (simp; done) | assumption | (simp; omega)); have z2_2 : w.heap.size + 1 + 1 < w2.heap.size := zz hb2 (by first | (simp; done) | assumption | (simp; omega))
  go_wp2_with fail
  refine (R2.out.call _).mono ?_
  rintro e w3 ⟨rfl, hb3⟩; have B3 : Below w.heap.size w w3 := (by repeat (with_reducible (first | exact Below.refl _ _ | assumption | apply ba | apply bd | apply bdr | (refine bs ?_ (by first | assumption | (simp; done) | (simp; omega))) | (refine bt ?_ (by assumption))))); have y3 := B3.size; have hc3_0 := fun o => (bcell hb3).1 (w.heap.size) o (by first | (simp; done) | assumption | (simp; omega)); have hf3_0 := fun o => (bcell hb3).2 (w.heap.size) o (by first | (simp; done) | assumption | (simp; omega)); have z3_0 : w.heap.size < w3.heap.size := zz hb3 (by first | (simp; done) | assumption | (simp; omega)); have hc3_1 := fun o => (bcell hb3).1 (w.heap.size + 1) o (by first | (simp; done) | assumption | (simp; omega)); have hf3_1 := fun o => (bcell hb3).2 (w.heap.size + 1) o (by first | (simp; done) | assumption | (simp; omega)); have z3_1 : w.heap.size + 1 < w3.heap.size := zz hb3 (by first | (simp; done) | assumption | (simp; omega)); have hc3_2 := fun o => (bcell hb3).1 (w.heap.size + 1 + 1) o (by first | (simp; done) | assumption | (simp; omega)); have hf3_2 := fun o => (bcell hb3).2 (w.heap.size + 1 + 1) o (by first | (simp; done) | assumption | (simp; omega)); have z3_2 : w.heap.size + 1 + 1 < w3.heap.size := zz hb3 (by first | (simp; done) | assumption | (simp; omega))
  go_wp2_with fail
  refine (WK.out.call HT.out (by repeat (with_reducible (first | exact Below.refl _ _ | assumption | apply ba | apply bd | apply bdr | (refine bs ?_ (by first | assumption | (simp; done) | (simp; omega))) | (refine bt ?_ (by assumption)))))).mono ?_
  rintro e w9 ⟨rfl, hb9⟩; have B9 : Below w.heap.size w w9 := (by repeat (with_reducible (first | exact Below.refl _ _ | assumption | apply ba | apply bd | apply bdr | (refine bs ?_ (by first | assumption | (simp; done) | (simp; omega))) | (refine bt ?_ (by assumption))))); have y9 := B9.size; have hc9_0 := fun o => (bcell hb9).1 (w.heap.size) o (by first | (simp; done) | assumption | (simp; omega)); have hf9_0 := fun o => (bcell hb9).2 (w.heap.size) o (by first | (simp; done) | assumption | (simp; omega)); have z9_0 : w.heap.size < w9.heap.size := zz hb9 (by first | (simp; done) | assumption | (simp; omega)); have hc9_1 := fun o => (bcell hb9).1 (w.heap.size + 1) o (by first | (simp; done) | assumption | (simp; omega)); have hf9_1 := fun o => (bcell hb9).2 (w.heap.size + 1) o (by first | (simp; done) | assumption | (simp; omega)); have z9_1 : w.heap.size + 1 < w9.heap.size := zz hb9 (by first | (simp; done) | assumption | (simp; omega)); have hc9_2 := fun o => (bcell hb9).1 (w.heap.size + 1 + 1) o (by first | (simp; done) | assumption | (simp; omega)); have hf9_2 := fun o => (bcell hb9).2 (w.heap.size + 1 + 1) o (by first | (simp; done) | assumption | (simp; omega)); have z9_2 : w.heap.size + 1 + 1 < w9.heap.size := zz hb9 (by first | (simp; done) | assumption | (simp; omega))
  go_wp2
  go_ret
  exact ⟨rfl, by repeat (with_reducible (first | exact Below.refl _ _ | assumption | apply ba | apply bd | apply bdr | (refine bs ?_ (by first | assumption | (simp; done) | (simp; omega))) | (refine bt ?_ (by assumption))))⟩
theorem orders_no3 (k1 n1 c1 : Int) (s1 : ByteArray) (b1 : Bool) (k2 n2 c2 : Int) (s2 : ByteArray) (b2 : Bool) (k3 n3 c3 : Int) (s3 : ByteArray) (b3 : Bool)  (w : World) (hT : TT w) (R1 : Hid (Gives 13 #[.agg #[.int .i64 k1, .int .i64 n1, .int .i64 c1, .string s1, .bool b1]] (.bool true))) (R2 : Hid (Gives 13 #[.agg #[.int .i64 k2, .int .i64 n2, .int .i64 c2, .string s2, .bool b2]] (.bool true))) (R3 : Hid (Gives 13 #[.agg #[.int .i64 k3, .int .i64 n3, .int .i64 c3, .string s3, .bool b3]] (.bool false))) : Calls Tryz.prog 10 #[.agg #[.int .i64 k1, .int .i64 n1, .int .i64 c1, .string s1, .bool b1], .agg #[.int .i64 k2, .int .i64 n2, .int .i64 c2, .string s2, .bool b2], .agg #[.int .i64 k3, .int .i64 n3, .int .i64 c3, .string s3, .bool b3]] w fun e w' => e = .returned (.bool true) ∧ Below w.heap.size w w' := by
  have HT := Lib.hid hT
  clear hT
  have WK := wake4
  go_enter Tryz.func10, Tryz.ntmps10
  go_wp2_with fail
  refine (WK.out.call HT.out (by repeat (with_reducible (first | exact Below.refl _ _ | assumption | apply ba | apply bd | apply bdr | (refine bs ?_ (by first | assumption | (simp; done) | (simp; omega))) | (refine bt ?_ (by assumption)))))).mono ?_
  rintro e w1 ⟨rfl, hb1⟩; have B1 : Below w.heap.size w w1 := (by repeat (with_reducible (first | exact Below.refl _ _ | assumption | apply ba | apply bd | apply bdr | (refine bs ?_ (by first | assumption | (simp; done) | (simp; omega))) | (refine bt ?_ (by assumption))))); have y1 := B1.size; have hc1_0 := fun o => (bcell hb1).1 (w.heap.size) o (by first | (simp; done) | assumption | (simp; omega)); have hf1_0 := fun o => (bcell hb1).2 (w.heap.size) o (by first | (simp; done) | assumption | (simp; omega)); have z1_0 : w.heap.size < w1.heap.size := zz hb1 (by first | (simp; done) | assumption | (simp; omega)); have hc1_1 := fun o => (bcell hb1).1 (w.heap.size + 1) o (by first | (simp; done) | assumption | (simp; omega)); have hf1_1 := fun o => (bcell hb1).2 (w.heap.size + 1) o (by first | (simp; done) | assumption | (simp; omega)); have z1_1 : w.heap.size + 1 < w1.heap.size := zz hb1 (by first | (simp; done) | assumption | (simp; omega)); have hc1_2 := fun o => (bcell hb1).1 (w.heap.size + 1 + 1) o (by first | (simp; done) | assumption | (simp; omega)); have hf1_2 := fun o => (bcell hb1).2 (w.heap.size + 1 + 1) o (by first | (simp; done) | assumption | (simp; omega)); have z1_2 : w.heap.size + 1 + 1 < w1.heap.size := zz hb1 (by first | (simp; done) | assumption | (simp; omega))
  go_wp2_with fail
  refine (R1.out.call _).mono ?_
  rintro e w2 ⟨rfl, hb2⟩; have B2 : Below w.heap.size w w2 := (by repeat (with_reducible (first | exact Below.refl _ _ | assumption | apply ba | apply bd | apply bdr | (refine bs ?_ (by first | assumption | (simp; done) | (simp; omega))) | (refine bt ?_ (by assumption))))); have y2 := B2.size; have hc2_0 := fun o => (bcell hb2).1 (w.heap.size) o (by first | (simp; done) | assumption | (simp; omega)); have hf2_0 := fun o => (bcell hb2).2 (w.heap.size) o (by first | (simp; done) | assumption | (simp; omega)); have z2_0 : w.heap.size < w2.heap.size := zz hb2 (by first | (simp; done) | assumption | (simp; omega)); have hc2_1 := fun o => (bcell hb2).1 (w.heap.size + 1) o (by first | (simp; done) | assumption | (simp; omega)); have hf2_1 := fun o => (bcell hb2).2 (w.heap.size + 1) o (by first | (simp; done) | assumption | (simp; omega)); have z2_1 : w.heap.size + 1 < w2.heap.size := zz hb2 (by first | (simp; done) | assumption | (simp; omega)); have hc2_2 := fun o => (bcell hb2).1 (w.heap.size + 1 + 1) o (by first | (simp; done) | assumption | (simp; omega)); have hf2_2 := fun o => (bcell hb2).2 (w.heap.size + 1 + 1) o (by first | (simp; done) | assumption | (simp; omega)); have z2_2 : w.heap.size + 1 + 1 < w2.heap.size := zz hb2 (by first | (simp; done) | assumption | (simp; omega))
  go_wp2_with fail
  refine (R2.out.call _).mono ?_
  rintro e w3 ⟨rfl, hb3⟩; have B3 : Below w.heap.size w w3 := (by repeat (with_reducible (first | exact Below.refl _ _ | assumption | apply ba | apply bd | apply bdr | (refine bs ?_ (by first | assumption | (simp; done) | (simp; omega))) | (refine bt ?_ (by assumption))))); have y3 := B3.size; have hc3_0 := fun o => (bcell hb3).1 (w.heap.size) o (by first | (simp; done) | assumption | (simp; omega)); have hf3_0 := fun o => (bcell hb3).2 (w.heap.size) o (by first | (simp; done) | assumption | (simp; omega)); have z3_0 : w.heap.size < w3.heap.size := zz hb3 (by first | (simp; done) | assumption | (simp; omega)); have hc3_1 := fun o => (bcell hb3).1 (w.heap.size + 1) o (by first | (simp; done) | assumption | (simp; omega)); have hf3_1 := fun o => (bcell hb3).2 (w.heap.size + 1) o (by first | (simp; done) | assumption | (simp; omega)); have z3_1 : w.heap.size + 1 < w3.heap.size := zz hb3 (by first | (simp; done) | assumption | (simp; omega)); have hc3_2 := fun o => (bcell hb3).1 (w.heap.size + 1 + 1) o (by first | (simp; done) | assumption | (simp; omega)); have hf3_2 := fun o => (bcell hb3).2 (w.heap.size + 1 + 1) o (by first | (simp; done) | assumption | (simp; omega)); have z3_2 : w.heap.size + 1 + 1 < w3.heap.size := zz hb3 (by first | (simp; done) | assumption | (simp; omega))
  go_wp2_with fail
  refine (R3.out.call _).mono ?_
  rintro e w4 ⟨rfl, hb4⟩; have B4 : Below w.heap.size w w4 := (by repeat (with_reducible (first | exact Below.refl _ _ | assumption | apply ba | apply bd | apply bdr | (refine bs ?_ (by first | assumption | (simp; done) | (simp; omega))) | (refine bt ?_ (by assumption))))); have y4 := B4.size; have hc4_0 := fun o => (bcell hb4).1 (w.heap.size) o (by first | (simp; done) | assumption | (simp; omega)); have hf4_0 := fun o => (bcell hb4).2 (w.heap.size) o (by first | (simp; done) | assumption | (simp; omega)); have z4_0 : w.heap.size < w4.heap.size := zz hb4 (by first | (simp; done) | assumption | (simp; omega)); have hc4_1 := fun o => (bcell hb4).1 (w.heap.size + 1) o (by first | (simp; done) | assumption | (simp; omega)); have hf4_1 := fun o => (bcell hb4).2 (w.heap.size + 1) o (by first | (simp; done) | assumption | (simp; omega)); have z4_1 : w.heap.size + 1 < w4.heap.size := zz hb4 (by first | (simp; done) | assumption | (simp; omega)); have hc4_2 := fun o => (bcell hb4).1 (w.heap.size + 1 + 1) o (by first | (simp; done) | assumption | (simp; omega)); have hf4_2 := fun o => (bcell hb4).2 (w.heap.size + 1 + 1) o (by first | (simp; done) | assumption | (simp; omega)); have z4_2 : w.heap.size + 1 + 1 < w4.heap.size := zz hb4 (by first | (simp; done) | assumption | (simp; omega))
  go_wp2_with fail
  refine (WK.out.call HT.out (by repeat (with_reducible (first | exact Below.refl _ _ | assumption | apply ba | apply bd | apply bdr | (refine bs ?_ (by first | assumption | (simp; done) | (simp; omega))) | (refine bt ?_ (by assumption)))))).mono ?_
  rintro e w9 ⟨rfl, hb9⟩; have B9 : Below w.heap.size w w9 := (by repeat (with_reducible (first | exact Below.refl _ _ | assumption | apply ba | apply bd | apply bdr | (refine bs ?_ (by first | assumption | (simp; done) | (simp; omega))) | (refine bt ?_ (by assumption))))); have y9 := B9.size; have hc9_0 := fun o => (bcell hb9).1 (w.heap.size) o (by first | (simp; done) | assumption | (simp; omega)); have hf9_0 := fun o => (bcell hb9).2 (w.heap.size) o (by first | (simp; done) | assumption | (simp; omega)); have z9_0 : w.heap.size < w9.heap.size := zz hb9 (by first | (simp; done) | assumption | (simp; omega)); have hc9_1 := fun o => (bcell hb9).1 (w.heap.size + 1) o (by first | (simp; done) | assumption | (simp; omega)); have hf9_1 := fun o => (bcell hb9).2 (w.heap.size + 1) o (by first | (simp; done) | assumption | (simp; omega)); have z9_1 : w.heap.size + 1 < w9.heap.size := zz hb9 (by first | (simp; done) | assumption | (simp; omega)); have hc9_2 := fun o => (bcell hb9).1 (w.heap.size + 1 + 1) o (by first | (simp; done) | assumption | (simp; omega)); have hf9_2 := fun o => (bcell hb9).2 (w.heap.size + 1 + 1) o (by first | (simp; done) | assumption | (simp; omega)); have z9_2 : w.heap.size + 1 + 1 < w9.heap.size := zz hb9 (by first | (simp; done) | assumption | (simp; omega))
  go_wp2
  go_ret
  exact ⟨rfl, by repeat (with_reducible (first | exact Below.refl _ _ | assumption | apply ba | apply bd | apply bdr | (refine bs ?_ (by first | assumption | (simp; done) | (simp; omega))) | (refine bt ?_ (by assumption))))⟩
theorem orders_a (k1 n1 c1 : Int) (s1 : ByteArray) (b1 : Bool) (k2 n2 c2 : Int) (s2 : ByteArray) (b2 : Bool) (k3 n3 c3 : Int) (s3 : ByteArray) (b3 : Bool) (z g v h : Int) (w : World) (hT : TT w) (R1 : Hid (Gives 13 #[.agg #[.int .i64 k1, .int .i64 n1, .int .i64 c1, .string s1, .bool b1]] (.bool true))) (R2 : Hid (Gives 13 #[.agg #[.int .i64 k2, .int .i64 n2, .int .i64 c2, .string s2, .bool b2]] (.bool true))) (R3 : Hid (Gives 13 #[.agg #[.int .i64 k3, .int .i64 n3, .int .i64 c3, .string s3, .bool b3]] (.bool true))) (OAB : Hid (Gives 30 #[.agg #[.int .i64 k1, .int .i64 n1, .int .i64 c1, .string s1, .bool b1], .agg #[.int .i64 k2, .int .i64 n2, .int .i64 c2, .string s2, .bool b2]] (.tuple #[.int .i64 0, .int .i64 44]))) (OBA : Hid (Gives 30 #[.agg #[.int .i64 k2, .int .i64 n2, .int .i64 c2, .string s2, .bool b2], .agg #[.int .i64 k1, .int .i64 n1, .int .i64 c1, .string s1, .bool b1]] (.tuple #[.int .i64 0, .int .i64 44]))) (OBC : Hid (Gives 30 #[.agg #[.int .i64 k2, .int .i64 n2, .int .i64 c2, .string s2, .bool b2], .agg #[.int .i64 k3, .int .i64 n3, .int .i64 c3, .string s3, .bool b3]] (.tuple #[.int .i64 z, .int .i64 g]))) (OAC : Hid (Gives 30 #[.agg #[.int .i64 k1, .int .i64 n1, .int .i64 c1, .string s1, .bool b1], .agg #[.int .i64 k3, .int .i64 n3, .int .i64 c3, .string s3, .bool b3]] (.tuple #[.int .i64 v, .int .i64 h]))) (OAA : Hid (Gives 30 #[.agg #[.int .i64 k1, .int .i64 n1, .int .i64 c1, .string s1, .bool b1], .agg #[.int .i64 k1, .int .i64 n1, .int .i64 c1, .string s1, .bool b1]] (.tuple #[.int .i64 0, .int .i64 0]))) (hg : g ≠ 0 ∨ h ≠ 0) : Calls Tryz.prog 10 #[.agg #[.int .i64 k1, .int .i64 n1, .int .i64 c1, .string s1, .bool b1], .agg #[.int .i64 k2, .int .i64 n2, .int .i64 c2, .string s2, .bool b2], .agg #[.int .i64 k3, .int .i64 n3, .int .i64 c3, .string s3, .bool b3]] w fun e w' => e = .returned (.bool true) ∧ Below w.heap.size w w' := by
  have HT := Lib.hid hT
  clear hT
  have WK := wake4
  have hg' : (g != 0) = true ∨ ((g != 0) = false ∧ (h != 0) = true) := by
    by_cases hz : g = 0
    · right; refine ⟨by simpa using hz, ?_⟩; rcases hg with h1 | h1
      · exact absurd hz h1
      · simpa using h1
    · left; simpa using hz
  clear hg
  rcases hg' with hg1 | ⟨hg1, hg2⟩
  all_goals
    go_enter Tryz.func10, Tryz.ntmps10
    go_wp2_with fail
    refine (WK.out.call HT.out (by repeat (with_reducible (first | exact Below.refl _ _ | assumption | apply ba | apply bd | apply bdr | (refine bs ?_ (by first | assumption | (simp; done) | (simp; omega))) | (refine bt ?_ (by assumption)))))).mono ?_
    rintro e w1 ⟨rfl, hb1⟩; have B1 : Below w.heap.size w w1 := (by repeat (with_reducible (first | exact Below.refl _ _ | assumption | apply ba | apply bd | apply bdr | (refine bs ?_ (by first | assumption | (simp; done) | (simp; omega))) | (refine bt ?_ (by assumption))))); have y1 := B1.size; have hc1_0 := fun o => (bcell hb1).1 (w.heap.size) o (by first | (simp; done) | assumption | (simp; omega)); have hf1_0 := fun o => (bcell hb1).2 (w.heap.size) o (by first | (simp; done) | assumption | (simp; omega)); have z1_0 : w.heap.size < w1.heap.size := zz hb1 (by first | (simp; done) | assumption | (simp; omega)); have hc1_1 := fun o => (bcell hb1).1 (w.heap.size + 1) o (by first | (simp; done) | assumption | (simp; omega)); have hf1_1 := fun o => (bcell hb1).2 (w.heap.size + 1) o (by first | (simp; done) | assumption | (simp; omega)); have z1_1 : w.heap.size + 1 < w1.heap.size := zz hb1 (by first | (simp; done) | assumption | (simp; omega)); have hc1_2 := fun o => (bcell hb1).1 (w.heap.size + 1 + 1) o (by first | (simp; done) | assumption | (simp; omega)); have hf1_2 := fun o => (bcell hb1).2 (w.heap.size + 1 + 1) o (by first | (simp; done) | assumption | (simp; omega)); have z1_2 : w.heap.size + 1 + 1 < w1.heap.size := zz hb1 (by first | (simp; done) | assumption | (simp; omega))
    go_wp2_with fail
    refine (R1.out.call _).mono ?_
    rintro e w2 ⟨rfl, hb2⟩; have B2 : Below w.heap.size w w2 := (by repeat (with_reducible (first | exact Below.refl _ _ | assumption | apply ba | apply bd | apply bdr | (refine bs ?_ (by first | assumption | (simp; done) | (simp; omega))) | (refine bt ?_ (by assumption))))); have y2 := B2.size; have hc2_0 := fun o => (bcell hb2).1 (w.heap.size) o (by first | (simp; done) | assumption | (simp; omega)); have hf2_0 := fun o => (bcell hb2).2 (w.heap.size) o (by first | (simp; done) | assumption | (simp; omega)); have z2_0 : w.heap.size < w2.heap.size := zz hb2 (by first | (simp; done) | assumption | (simp; omega)); have hc2_1 := fun o => (bcell hb2).1 (w.heap.size + 1) o (by first | (simp; done) | assumption | (simp; omega)); have hf2_1 := fun o => (bcell hb2).2 (w.heap.size + 1) o (by first | (simp; done) | assumption | (simp; omega)); have z2_1 : w.heap.size + 1 < w2.heap.size := zz hb2 (by first | (simp; done) | assumption | (simp; omega)); have hc2_2 := fun o => (bcell hb2).1 (w.heap.size + 1 + 1) o (by first | (simp; done) | assumption | (simp; omega)); have hf2_2 := fun o => (bcell hb2).2 (w.heap.size + 1 + 1) o (by first | (simp; done) | assumption | (simp; omega)); have z2_2 : w.heap.size + 1 + 1 < w2.heap.size := zz hb2 (by first | (simp; done) | assumption | (simp; omega))
    go_wp2_with fail
    refine (R2.out.call _).mono ?_
    rintro e w3 ⟨rfl, hb3⟩; have B3 : Below w.heap.size w w3 := (by repeat (with_reducible (first | exact Below.refl _ _ | assumption | apply ba | apply bd | apply bdr | (refine bs ?_ (by first | assumption | (simp; done) | (simp; omega))) | (refine bt ?_ (by assumption))))); have y3 := B3.size; have hc3_0 := fun o => (bcell hb3).1 (w.heap.size) o (by first | (simp; done) | assumption | (simp; omega)); have hf3_0 := fun o => (bcell hb3).2 (w.heap.size) o (by first | (simp; done) | assumption | (simp; omega)); have z3_0 : w.heap.size < w3.heap.size := zz hb3 (by first | (simp; done) | assumption | (simp; omega)); have hc3_1 := fun o => (bcell hb3).1 (w.heap.size + 1) o (by first | (simp; done) | assumption | (simp; omega)); have hf3_1 := fun o => (bcell hb3).2 (w.heap.size + 1) o (by first | (simp; done) | assumption | (simp; omega)); have z3_1 : w.heap.size + 1 < w3.heap.size := zz hb3 (by first | (simp; done) | assumption | (simp; omega)); have hc3_2 := fun o => (bcell hb3).1 (w.heap.size + 1 + 1) o (by first | (simp; done) | assumption | (simp; omega)); have hf3_2 := fun o => (bcell hb3).2 (w.heap.size + 1 + 1) o (by first | (simp; done) | assumption | (simp; omega)); have z3_2 : w.heap.size + 1 + 1 < w3.heap.size := zz hb3 (by first | (simp; done) | assumption | (simp; omega))
    go_wp2_with fail
    refine (R3.out.call _).mono ?_
    rintro e w4 ⟨rfl, hb4⟩; have B4 : Below w.heap.size w w4 := (by repeat (with_reducible (first | exact Below.refl _ _ | assumption | apply ba | apply bd | apply bdr | (refine bs ?_ (by first | assumption | (simp; done) | (simp; omega))) | (refine bt ?_ (by assumption))))); have y4 := B4.size; have hc4_0 := fun o => (bcell hb4).1 (w.heap.size) o (by first | (simp; done) | assumption | (simp; omega)); have hf4_0 := fun o => (bcell hb4).2 (w.heap.size) o (by first | (simp; done) | assumption | (simp; omega)); have z4_0 : w.heap.size < w4.heap.size := zz hb4 (by first | (simp; done) | assumption | (simp; omega)); have hc4_1 := fun o => (bcell hb4).1 (w.heap.size + 1) o (by first | (simp; done) | assumption | (simp; omega)); have hf4_1 := fun o => (bcell hb4).2 (w.heap.size + 1) o (by first | (simp; done) | assumption | (simp; omega)); have z4_1 : w.heap.size + 1 < w4.heap.size := zz hb4 (by first | (simp; done) | assumption | (simp; omega)); have hc4_2 := fun o => (bcell hb4).1 (w.heap.size + 1 + 1) o (by first | (simp; done) | assumption | (simp; omega)); have hf4_2 := fun o => (bcell hb4).2 (w.heap.size + 1 + 1) o (by first | (simp; done) | assumption | (simp; omega)); have z4_2 : w.heap.size + 1 + 1 < w4.heap.size := zz hb4 (by first | (simp; done) | assumption | (simp; omega))
    go_wp2_with fail
    refine (OAB.out.call _).mono ?_
    rintro e w5 ⟨rfl, hb5⟩; have B5 : Below w.heap.size w w5 := (by repeat (with_reducible (first | exact Below.refl _ _ | assumption | apply ba | apply bd | apply bdr | (refine bs ?_ (by first | assumption | (simp; done) | (simp; omega))) | (refine bt ?_ (by assumption))))); have y5 := B5.size; have hc5_0 := fun o => (bcell hb5).1 (w.heap.size) o (by first | (simp; done) | assumption | (simp; omega)); have hf5_0 := fun o => (bcell hb5).2 (w.heap.size) o (by first | (simp; done) | assumption | (simp; omega)); have z5_0 : w.heap.size < w5.heap.size := zz hb5 (by first | (simp; done) | assumption | (simp; omega)); have hc5_1 := fun o => (bcell hb5).1 (w.heap.size + 1) o (by first | (simp; done) | assumption | (simp; omega)); have hf5_1 := fun o => (bcell hb5).2 (w.heap.size + 1) o (by first | (simp; done) | assumption | (simp; omega)); have z5_1 : w.heap.size + 1 < w5.heap.size := zz hb5 (by first | (simp; done) | assumption | (simp; omega)); have hc5_2 := fun o => (bcell hb5).1 (w.heap.size + 1 + 1) o (by first | (simp; done) | assumption | (simp; omega)); have hf5_2 := fun o => (bcell hb5).2 (w.heap.size + 1 + 1) o (by first | (simp; done) | assumption | (simp; omega)); have z5_2 : w.heap.size + 1 + 1 < w5.heap.size := zz hb5 (by first | (simp; done) | assumption | (simp; omega))
    go_wp2_with fail
    refine (OBA.out.call _).mono ?_
    rintro e w6 ⟨rfl, hb6⟩; have B6 : Below w.heap.size w w6 := (by repeat (with_reducible (first | exact Below.refl _ _ | assumption | apply ba | apply bd | apply bdr | (refine bs ?_ (by first | assumption | (simp; done) | (simp; omega))) | (refine bt ?_ (by assumption))))); have y6 := B6.size; have hc6_0 := fun o => (bcell hb6).1 (w.heap.size) o (by first | (simp; done) | assumption | (simp; omega)); have hf6_0 := fun o => (bcell hb6).2 (w.heap.size) o (by first | (simp; done) | assumption | (simp; omega)); have z6_0 : w.heap.size < w6.heap.size := zz hb6 (by first | (simp; done) | assumption | (simp; omega)); have hc6_1 := fun o => (bcell hb6).1 (w.heap.size + 1) o (by first | (simp; done) | assumption | (simp; omega)); have hf6_1 := fun o => (bcell hb6).2 (w.heap.size + 1) o (by first | (simp; done) | assumption | (simp; omega)); have z6_1 : w.heap.size + 1 < w6.heap.size := zz hb6 (by first | (simp; done) | assumption | (simp; omega)); have hc6_2 := fun o => (bcell hb6).1 (w.heap.size + 1 + 1) o (by first | (simp; done) | assumption | (simp; omega)); have hf6_2 := fun o => (bcell hb6).2 (w.heap.size + 1 + 1) o (by first | (simp; done) | assumption | (simp; omega)); have z6_2 : w.heap.size + 1 + 1 < w6.heap.size := zz hb6 (by first | (simp; done) | assumption | (simp; omega))
    go_wp2_with fail
    refine (OBC.out.call _).mono ?_
    rintro e w7 ⟨rfl, hb7⟩; have B7 : Below w.heap.size w w7 := (by repeat (with_reducible (first | exact Below.refl _ _ | assumption | apply ba | apply bd | apply bdr | (refine bs ?_ (by first | assumption | (simp; done) | (simp; omega))) | (refine bt ?_ (by assumption))))); have y7 := B7.size; have hc7_0 := fun o => (bcell hb7).1 (w.heap.size) o (by first | (simp; done) | assumption | (simp; omega)); have hf7_0 := fun o => (bcell hb7).2 (w.heap.size) o (by first | (simp; done) | assumption | (simp; omega)); have z7_0 : w.heap.size < w7.heap.size := zz hb7 (by first | (simp; done) | assumption | (simp; omega)); have hc7_1 := fun o => (bcell hb7).1 (w.heap.size + 1) o (by first | (simp; done) | assumption | (simp; omega)); have hf7_1 := fun o => (bcell hb7).2 (w.heap.size + 1) o (by first | (simp; done) | assumption | (simp; omega)); have z7_1 : w.heap.size + 1 < w7.heap.size := zz hb7 (by first | (simp; done) | assumption | (simp; omega)); have hc7_2 := fun o => (bcell hb7).1 (w.heap.size + 1 + 1) o (by first | (simp; done) | assumption | (simp; omega)); have hf7_2 := fun o => (bcell hb7).2 (w.heap.size + 1 + 1) o (by first | (simp; done) | assumption | (simp; omega)); have z7_2 : w.heap.size + 1 + 1 < w7.heap.size := zz hb7 (by first | (simp; done) | assumption | (simp; omega))
    go_wp2_with fail
    refine (OAC.out.call _).mono ?_
    rintro e w8 ⟨rfl, hb8⟩; have B8 : Below w.heap.size w w8 := (by repeat (with_reducible (first | exact Below.refl _ _ | assumption | apply ba | apply bd | apply bdr | (refine bs ?_ (by first | assumption | (simp; done) | (simp; omega))) | (refine bt ?_ (by assumption))))); have y8 := B8.size; have hc8_0 := fun o => (bcell hb8).1 (w.heap.size) o (by first | (simp; done) | assumption | (simp; omega)); have hf8_0 := fun o => (bcell hb8).2 (w.heap.size) o (by first | (simp; done) | assumption | (simp; omega)); have z8_0 : w.heap.size < w8.heap.size := zz hb8 (by first | (simp; done) | assumption | (simp; omega)); have hc8_1 := fun o => (bcell hb8).1 (w.heap.size + 1) o (by first | (simp; done) | assumption | (simp; omega)); have hf8_1 := fun o => (bcell hb8).2 (w.heap.size + 1) o (by first | (simp; done) | assumption | (simp; omega)); have z8_1 : w.heap.size + 1 < w8.heap.size := zz hb8 (by first | (simp; done) | assumption | (simp; omega)); have hc8_2 := fun o => (bcell hb8).1 (w.heap.size + 1 + 1) o (by first | (simp; done) | assumption | (simp; omega)); have hf8_2 := fun o => (bcell hb8).2 (w.heap.size + 1 + 1) o (by first | (simp; done) | assumption | (simp; omega)); have z8_2 : w.heap.size + 1 + 1 < w8.heap.size := zz hb8 (by first | (simp; done) | assumption | (simp; omega))
    go_wp2_with fail
    refine (OAA.out.call _).mono ?_
    rintro e w9 ⟨rfl, hb9⟩; have B9 : Below w.heap.size w w9 := (by repeat (with_reducible (first | exact Below.refl _ _ | assumption | apply ba | apply bd | apply bdr | (refine bs ?_ (by first | assumption | (simp; done) | (simp; omega))) | (refine bt ?_ (by assumption))))); have y9 := B9.size; have hc9_0 := fun o => (bcell hb9).1 (w.heap.size) o (by first | (simp; done) | assumption | (simp; omega)); have hf9_0 := fun o => (bcell hb9).2 (w.heap.size) o (by first | (simp; done) | assumption | (simp; omega)); have z9_0 : w.heap.size < w9.heap.size := zz hb9 (by first | (simp; done) | assumption | (simp; omega)); have hc9_1 := fun o => (bcell hb9).1 (w.heap.size + 1) o (by first | (simp; done) | assumption | (simp; omega)); have hf9_1 := fun o => (bcell hb9).2 (w.heap.size + 1) o (by first | (simp; done) | assumption | (simp; omega)); have z9_1 : w.heap.size + 1 < w9.heap.size := zz hb9 (by first | (simp; done) | assumption | (simp; omega)); have hc9_2 := fun o => (bcell hb9).1 (w.heap.size + 1 + 1) o (by first | (simp; done) | assumption | (simp; omega)); have hf9_2 := fun o => (bcell hb9).2 (w.heap.size + 1 + 1) o (by first | (simp; done) | assumption | (simp; omega)); have z9_2 : w.heap.size + 1 + 1 < w9.heap.size := zz hb9 (by first | (simp; done) | assumption | (simp; omega))
    go_wp2
    go_ret
    exact ⟨by first | rfl | exact ret_bool (by simp [*]), by repeat (with_reducible (first | exact Below.refl _ _ | assumption | apply ba | apply bd | apply bdr | (refine bs ?_ (by first | assumption | (simp; done) | (simp; omega))) | (refine bt ?_ (by assumption))))⟩
theorem orders_b (k1 n1 c1 : Int) (s1 : ByteArray) (b1 : Bool) (k2 n2 c2 : Int) (s2 : ByteArray) (b2 : Bool) (k3 n3 c3 : Int) (s3 : ByteArray) (b3 : Bool) (x v h : Int) (w : World) (hT : TT w) (R1 : Hid (Gives 13 #[.agg #[.int .i64 k1, .int .i64 n1, .int .i64 c1, .string s1, .bool b1]] (.bool true))) (R2 : Hid (Gives 13 #[.agg #[.int .i64 k2, .int .i64 n2, .int .i64 c2, .string s2, .bool b2]] (.bool true))) (R3 : Hid (Gives 13 #[.agg #[.int .i64 k3, .int .i64 n3, .int .i64 c3, .string s3, .bool b3]] (.bool true))) (OAB : Hid (Gives 30 #[.agg #[.int .i64 k1, .int .i64 n1, .int .i64 c1, .string s1, .bool b1], .agg #[.int .i64 k2, .int .i64 n2, .int .i64 c2, .string s2, .bool b2]] (.tuple #[.int .i64 x, .int .i64 0]))) (OBA : Hid (Gives 30 #[.agg #[.int .i64 k2, .int .i64 n2, .int .i64 c2, .string s2, .bool b2], .agg #[.int .i64 k1, .int .i64 n1, .int .i64 c1, .string s1, .bool b1]] (.tuple #[.int .i64 (-x), .int .i64 0]))) (OBC : Hid (Gives 30 #[.agg #[.int .i64 k2, .int .i64 n2, .int .i64 c2, .string s2, .bool b2], .agg #[.int .i64 k3, .int .i64 n3, .int .i64 c3, .string s3, .bool b3]] (.tuple #[.int .i64 0, .int .i64 44]))) (OAC : Hid (Gives 30 #[.agg #[.int .i64 k1, .int .i64 n1, .int .i64 c1, .string s1, .bool b1], .agg #[.int .i64 k3, .int .i64 n3, .int .i64 c3, .string s3, .bool b3]] (.tuple #[.int .i64 v, .int .i64 h]))) (OAA : Hid (Gives 30 #[.agg #[.int .i64 k1, .int .i64 n1, .int .i64 c1, .string s1, .bool b1], .agg #[.int .i64 k1, .int .i64 n1, .int .i64 c1, .string s1, .bool b1]] (.tuple #[.int .i64 0, .int .i64 0]))) (hx1 : -1 ≤ x) (hx2 : x ≤ 1) : Calls Tryz.prog 10 #[.agg #[.int .i64 k1, .int .i64 n1, .int .i64 c1, .string s1, .bool b1], .agg #[.int .i64 k2, .int .i64 n2, .int .i64 c2, .string s2, .bool b2], .agg #[.int .i64 k3, .int .i64 n3, .int .i64 c3, .string s3, .bool b3]] w fun e w' => e = .returned (.bool true) ∧ Below w.heap.size w w' := by
  have HT := Lib.hid hT
  clear hT
  have WK := wake4
  go_enter Tryz.func10, Tryz.ntmps10
  go_wp2_with fail
  refine (WK.out.call HT.out (by repeat (with_reducible (first | exact Below.refl _ _ | assumption | apply ba | apply bd | apply bdr | (refine bs ?_ (by first | assumption | (simp; done) | (simp; omega))) | (refine bt ?_ (by assumption)))))).mono ?_
  rintro e w1 ⟨rfl, hb1⟩; have B1 : Below w.heap.size w w1 := (by repeat (with_reducible (first | exact Below.refl _ _ | assumption | apply ba | apply bd | apply bdr | (refine bs ?_ (by first | assumption | (simp; done) | (simp; omega))) | (refine bt ?_ (by assumption))))); have y1 := B1.size; have hc1_0 := fun o => (bcell hb1).1 (w.heap.size) o (by first | (simp; done) | assumption | (simp; omega)); have hf1_0 := fun o => (bcell hb1).2 (w.heap.size) o (by first | (simp; done) | assumption | (simp; omega)); have z1_0 : w.heap.size < w1.heap.size := zz hb1 (by first | (simp; done) | assumption | (simp; omega)); have hc1_1 := fun o => (bcell hb1).1 (w.heap.size + 1) o (by first | (simp; done) | assumption | (simp; omega)); have hf1_1 := fun o => (bcell hb1).2 (w.heap.size + 1) o (by first | (simp; done) | assumption | (simp; omega)); have z1_1 : w.heap.size + 1 < w1.heap.size := zz hb1 (by first | (simp; done) | assumption | (simp; omega)); have hc1_2 := fun o => (bcell hb1).1 (w.heap.size + 1 + 1) o (by first | (simp; done) | assumption | (simp; omega)); have hf1_2 := fun o => (bcell hb1).2 (w.heap.size + 1 + 1) o (by first | (simp; done) | assumption | (simp; omega)); have z1_2 : w.heap.size + 1 + 1 < w1.heap.size := zz hb1 (by first | (simp; done) | assumption | (simp; omega))
  go_wp2_with fail
  refine (R1.out.call _).mono ?_
  rintro e w2 ⟨rfl, hb2⟩; have B2 : Below w.heap.size w w2 := (by repeat (with_reducible (first | exact Below.refl _ _ | assumption | apply ba | apply bd | apply bdr | (refine bs ?_ (by first | assumption | (simp; done) | (simp; omega))) | (refine bt ?_ (by assumption))))); have y2 := B2.size; have hc2_0 := fun o => (bcell hb2).1 (w.heap.size) o (by first | (simp; done) | assumption | (simp; omega)); have hf2_0 := fun o => (bcell hb2).2 (w.heap.size) o (by first | (simp; done) | assumption | (simp; omega)); have z2_0 : w.heap.size < w2.heap.size := zz hb2 (by first | (simp; done) | assumption | (simp; omega)); have hc2_1 := fun o => (bcell hb2).1 (w.heap.size + 1) o (by first | (simp; done) | assumption | (simp; omega)); have hf2_1 := fun o => (bcell hb2).2 (w.heap.size + 1) o (by first | (simp; done) | assumption | (simp; omega)); have z2_1 : w.heap.size + 1 < w2.heap.size := zz hb2 (by first | (simp; done) | assumption | (simp; omega)); have hc2_2 := fun o => (bcell hb2).1 (w.heap.size + 1 + 1) o (by first | (simp; done) | assumption | (simp; omega)); have hf2_2 := fun o => (bcell hb2).2 (w.heap.size + 1 + 1) o (by first | (simp; done) | assumption | (simp; omega)); have z2_2 : w.heap.size + 1 + 1 < w2.heap.size := zz hb2 (by first | (simp; done) | assumption | (simp; omega))
  go_wp2_with fail
  refine (R2.out.call _).mono ?_
  rintro e w3 ⟨rfl, hb3⟩; have B3 : Below w.heap.size w w3 := (by repeat (with_reducible (first | exact Below.refl _ _ | assumption | apply ba | apply bd | apply bdr | (refine bs ?_ (by first | assumption | (simp; done) | (simp; omega))) | (refine bt ?_ (by assumption))))); have y3 := B3.size; have hc3_0 := fun o => (bcell hb3).1 (w.heap.size) o (by first | (simp; done) | assumption | (simp; omega)); have hf3_0 := fun o => (bcell hb3).2 (w.heap.size) o (by first | (simp; done) | assumption | (simp; omega)); have z3_0 : w.heap.size < w3.heap.size := zz hb3 (by first | (simp; done) | assumption | (simp; omega)); have hc3_1 := fun o => (bcell hb3).1 (w.heap.size + 1) o (by first | (simp; done) | assumption | (simp; omega)); have hf3_1 := fun o => (bcell hb3).2 (w.heap.size + 1) o (by first | (simp; done) | assumption | (simp; omega)); have z3_1 : w.heap.size + 1 < w3.heap.size := zz hb3 (by first | (simp; done) | assumption | (simp; omega)); have hc3_2 := fun o => (bcell hb3).1 (w.heap.size + 1 + 1) o (by first | (simp; done) | assumption | (simp; omega)); have hf3_2 := fun o => (bcell hb3).2 (w.heap.size + 1 + 1) o (by first | (simp; done) | assumption | (simp; omega)); have z3_2 : w.heap.size + 1 + 1 < w3.heap.size := zz hb3 (by first | (simp; done) | assumption | (simp; omega))
  go_wp2_with fail
  refine (R3.out.call _).mono ?_
  rintro e w4 ⟨rfl, hb4⟩; have B4 : Below w.heap.size w w4 := (by repeat (with_reducible (first | exact Below.refl _ _ | assumption | apply ba | apply bd | apply bdr | (refine bs ?_ (by first | assumption | (simp; done) | (simp; omega))) | (refine bt ?_ (by assumption))))); have y4 := B4.size; have hc4_0 := fun o => (bcell hb4).1 (w.heap.size) o (by first | (simp; done) | assumption | (simp; omega)); have hf4_0 := fun o => (bcell hb4).2 (w.heap.size) o (by first | (simp; done) | assumption | (simp; omega)); have z4_0 : w.heap.size < w4.heap.size := zz hb4 (by first | (simp; done) | assumption | (simp; omega)); have hc4_1 := fun o => (bcell hb4).1 (w.heap.size + 1) o (by first | (simp; done) | assumption | (simp; omega)); have hf4_1 := fun o => (bcell hb4).2 (w.heap.size + 1) o (by first | (simp; done) | assumption | (simp; omega)); have z4_1 : w.heap.size + 1 < w4.heap.size := zz hb4 (by first | (simp; done) | assumption | (simp; omega)); have hc4_2 := fun o => (bcell hb4).1 (w.heap.size + 1 + 1) o (by first | (simp; done) | assumption | (simp; omega)); have hf4_2 := fun o => (bcell hb4).2 (w.heap.size + 1 + 1) o (by first | (simp; done) | assumption | (simp; omega)); have z4_2 : w.heap.size + 1 + 1 < w4.heap.size := zz hb4 (by first | (simp; done) | assumption | (simp; omega))
  go_wp2_with fail
  refine (OAB.out.call _).mono ?_
  rintro e w5 ⟨rfl, hb5⟩; have B5 : Below w.heap.size w w5 := (by repeat (with_reducible (first | exact Below.refl _ _ | assumption | apply ba | apply bd | apply bdr | (refine bs ?_ (by first | assumption | (simp; done) | (simp; omega))) | (refine bt ?_ (by assumption))))); have y5 := B5.size; have hc5_0 := fun o => (bcell hb5).1 (w.heap.size) o (by first | (simp; done) | assumption | (simp; omega)); have hf5_0 := fun o => (bcell hb5).2 (w.heap.size) o (by first | (simp; done) | assumption | (simp; omega)); have z5_0 : w.heap.size < w5.heap.size := zz hb5 (by first | (simp; done) | assumption | (simp; omega)); have hc5_1 := fun o => (bcell hb5).1 (w.heap.size + 1) o (by first | (simp; done) | assumption | (simp; omega)); have hf5_1 := fun o => (bcell hb5).2 (w.heap.size + 1) o (by first | (simp; done) | assumption | (simp; omega)); have z5_1 : w.heap.size + 1 < w5.heap.size := zz hb5 (by first | (simp; done) | assumption | (simp; omega)); have hc5_2 := fun o => (bcell hb5).1 (w.heap.size + 1 + 1) o (by first | (simp; done) | assumption | (simp; omega)); have hf5_2 := fun o => (bcell hb5).2 (w.heap.size + 1 + 1) o (by first | (simp; done) | assumption | (simp; omega)); have z5_2 : w.heap.size + 1 + 1 < w5.heap.size := zz hb5 (by first | (simp; done) | assumption | (simp; omega))
  go_wp2_with fail
  refine (OBA.out.call _).mono ?_
  rintro e w6 ⟨rfl, hb6⟩; have B6 : Below w.heap.size w w6 := (by repeat (with_reducible (first | exact Below.refl _ _ | assumption | apply ba | apply bd | apply bdr | (refine bs ?_ (by first | assumption | (simp; done) | (simp; omega))) | (refine bt ?_ (by assumption))))); have y6 := B6.size; have hc6_0 := fun o => (bcell hb6).1 (w.heap.size) o (by first | (simp; done) | assumption | (simp; omega)); have hf6_0 := fun o => (bcell hb6).2 (w.heap.size) o (by first | (simp; done) | assumption | (simp; omega)); have z6_0 : w.heap.size < w6.heap.size := zz hb6 (by first | (simp; done) | assumption | (simp; omega)); have hc6_1 := fun o => (bcell hb6).1 (w.heap.size + 1) o (by first | (simp; done) | assumption | (simp; omega)); have hf6_1 := fun o => (bcell hb6).2 (w.heap.size + 1) o (by first | (simp; done) | assumption | (simp; omega)); have z6_1 : w.heap.size + 1 < w6.heap.size := zz hb6 (by first | (simp; done) | assumption | (simp; omega)); have hc6_2 := fun o => (bcell hb6).1 (w.heap.size + 1 + 1) o (by first | (simp; done) | assumption | (simp; omega)); have hf6_2 := fun o => (bcell hb6).2 (w.heap.size + 1 + 1) o (by first | (simp; done) | assumption | (simp; omega)); have z6_2 : w.heap.size + 1 + 1 < w6.heap.size := zz hb6 (by first | (simp; done) | assumption | (simp; omega))
  go_wp2_with fail
  refine (OBC.out.call _).mono ?_
  rintro e w7 ⟨rfl, hb7⟩; have B7 : Below w.heap.size w w7 := (by repeat (with_reducible (first | exact Below.refl _ _ | assumption | apply ba | apply bd | apply bdr | (refine bs ?_ (by first | assumption | (simp; done) | (simp; omega))) | (refine bt ?_ (by assumption))))); have y7 := B7.size; have hc7_0 := fun o => (bcell hb7).1 (w.heap.size) o (by first | (simp; done) | assumption | (simp; omega)); have hf7_0 := fun o => (bcell hb7).2 (w.heap.size) o (by first | (simp; done) | assumption | (simp; omega)); have z7_0 : w.heap.size < w7.heap.size := zz hb7 (by first | (simp; done) | assumption | (simp; omega)); have hc7_1 := fun o => (bcell hb7).1 (w.heap.size + 1) o (by first | (simp; done) | assumption | (simp; omega)); have hf7_1 := fun o => (bcell hb7).2 (w.heap.size + 1) o (by first | (simp; done) | assumption | (simp; omega)); have z7_1 : w.heap.size + 1 < w7.heap.size := zz hb7 (by first | (simp; done) | assumption | (simp; omega)); have hc7_2 := fun o => (bcell hb7).1 (w.heap.size + 1 + 1) o (by first | (simp; done) | assumption | (simp; omega)); have hf7_2 := fun o => (bcell hb7).2 (w.heap.size + 1 + 1) o (by first | (simp; done) | assumption | (simp; omega)); have z7_2 : w.heap.size + 1 + 1 < w7.heap.size := zz hb7 (by first | (simp; done) | assumption | (simp; omega))
  go_wp2_with fail
  refine (OAC.out.call _).mono ?_
  rintro e w8 ⟨rfl, hb8⟩; have B8 : Below w.heap.size w w8 := (by repeat (with_reducible (first | exact Below.refl _ _ | assumption | apply ba | apply bd | apply bdr | (refine bs ?_ (by first | assumption | (simp; done) | (simp; omega))) | (refine bt ?_ (by assumption))))); have y8 := B8.size; have hc8_0 := fun o => (bcell hb8).1 (w.heap.size) o (by first | (simp; done) | assumption | (simp; omega)); have hf8_0 := fun o => (bcell hb8).2 (w.heap.size) o (by first | (simp; done) | assumption | (simp; omega)); have z8_0 : w.heap.size < w8.heap.size := zz hb8 (by first | (simp; done) | assumption | (simp; omega)); have hc8_1 := fun o => (bcell hb8).1 (w.heap.size + 1) o (by first | (simp; done) | assumption | (simp; omega)); have hf8_1 := fun o => (bcell hb8).2 (w.heap.size + 1) o (by first | (simp; done) | assumption | (simp; omega)); have z8_1 : w.heap.size + 1 < w8.heap.size := zz hb8 (by first | (simp; done) | assumption | (simp; omega)); have hc8_2 := fun o => (bcell hb8).1 (w.heap.size + 1 + 1) o (by first | (simp; done) | assumption | (simp; omega)); have hf8_2 := fun o => (bcell hb8).2 (w.heap.size + 1 + 1) o (by first | (simp; done) | assumption | (simp; omega)); have z8_2 : w.heap.size + 1 + 1 < w8.heap.size := zz hb8 (by first | (simp; done) | assumption | (simp; omega))
  go_wp2_with fail
  refine (OAA.out.call _).mono ?_
  rintro e w9 ⟨rfl, hb9⟩; have B9 : Below w.heap.size w w9 := (by repeat (with_reducible (first | exact Below.refl _ _ | assumption | apply ba | apply bd | apply bdr | (refine bs ?_ (by first | assumption | (simp; done) | (simp; omega))) | (refine bt ?_ (by assumption))))); have y9 := B9.size; have hc9_0 := fun o => (bcell hb9).1 (w.heap.size) o (by first | (simp; done) | assumption | (simp; omega)); have hf9_0 := fun o => (bcell hb9).2 (w.heap.size) o (by first | (simp; done) | assumption | (simp; omega)); have z9_0 : w.heap.size < w9.heap.size := zz hb9 (by first | (simp; done) | assumption | (simp; omega)); have hc9_1 := fun o => (bcell hb9).1 (w.heap.size + 1) o (by first | (simp; done) | assumption | (simp; omega)); have hf9_1 := fun o => (bcell hb9).2 (w.heap.size + 1) o (by first | (simp; done) | assumption | (simp; omega)); have z9_1 : w.heap.size + 1 < w9.heap.size := zz hb9 (by first | (simp; done) | assumption | (simp; omega)); have hc9_2 := fun o => (bcell hb9).1 (w.heap.size + 1 + 1) o (by first | (simp; done) | assumption | (simp; omega)); have hf9_2 := fun o => (bcell hb9).2 (w.heap.size + 1 + 1) o (by first | (simp; done) | assumption | (simp; omega)); have z9_2 : w.heap.size + 1 + 1 < w9.heap.size := zz hb9 (by first | (simp; done) | assumption | (simp; omega))
  go_wp2
  go_ret
  exact ⟨by first | rfl | exact ret_bool (by simp [*]), by repeat (with_reducible (first | exact Below.refl _ _ | assumption | apply ba | apply bd | apply bdr | (refine bs ?_ (by first | assumption | (simp; done) | (simp; omega))) | (refine bt ?_ (by assumption))))⟩
theorem orders_c (k1 n1 c1 : Int) (s1 : ByteArray) (b1 : Bool) (k2 n2 c2 : Int) (s2 : ByteArray) (b2 : Bool) (k3 n3 c3 : Int) (s3 : ByteArray) (b3 : Bool) (x z v : Int) (w : World) (hT : TT w) (R1 : Hid (Gives 13 #[.agg #[.int .i64 k1, .int .i64 n1, .int .i64 c1, .string s1, .bool b1]] (.bool true))) (R2 : Hid (Gives 13 #[.agg #[.int .i64 k2, .int .i64 n2, .int .i64 c2, .string s2, .bool b2]] (.bool true))) (R3 : Hid (Gives 13 #[.agg #[.int .i64 k3, .int .i64 n3, .int .i64 c3, .string s3, .bool b3]] (.bool true))) (OAB : Hid (Gives 30 #[.agg #[.int .i64 k1, .int .i64 n1, .int .i64 c1, .string s1, .bool b1], .agg #[.int .i64 k2, .int .i64 n2, .int .i64 c2, .string s2, .bool b2]] (.tuple #[.int .i64 x, .int .i64 0]))) (OBA : Hid (Gives 30 #[.agg #[.int .i64 k2, .int .i64 n2, .int .i64 c2, .string s2, .bool b2], .agg #[.int .i64 k1, .int .i64 n1, .int .i64 c1, .string s1, .bool b1]] (.tuple #[.int .i64 (-x), .int .i64 0]))) (OBC : Hid (Gives 30 #[.agg #[.int .i64 k2, .int .i64 n2, .int .i64 c2, .string s2, .bool b2], .agg #[.int .i64 k3, .int .i64 n3, .int .i64 c3, .string s3, .bool b3]] (.tuple #[.int .i64 z, .int .i64 0]))) (OAC : Hid (Gives 30 #[.agg #[.int .i64 k1, .int .i64 n1, .int .i64 c1, .string s1, .bool b1], .agg #[.int .i64 k3, .int .i64 n3, .int .i64 c3, .string s3, .bool b3]] (.tuple #[.int .i64 v, .int .i64 0]))) (OAA : Hid (Gives 30 #[.agg #[.int .i64 k1, .int .i64 n1, .int .i64 c1, .string s1, .bool b1], .agg #[.int .i64 k1, .int .i64 n1, .int .i64 c1, .string s1, .bool b1]] (.tuple #[.int .i64 0, .int .i64 0]))) (hx1 : -1 ≤ x) (hx2 : x ≤ 1) (l1 : 0 < x ∨ 0 < z ∨ v ≤ 0) (l2 : x ≠ 0 ∨ v = z) (l3 : 0 ≤ x ∨ 0 < z ∨ v < 0) : Calls Tryz.prog 10 #[.agg #[.int .i64 k1, .int .i64 n1, .int .i64 c1, .string s1, .bool b1], .agg #[.int .i64 k2, .int .i64 n2, .int .i64 c2, .string s2, .bool b2], .agg #[.int .i64 k3, .int .i64 n3, .int .i64 c3, .string s3, .bool b3]] w fun e w' => e = .returned (.bool true) ∧ Below w.heap.size w w' := by
  have HT := Lib.hid hT
  clear hT
  have WK := wake4
  have L1 := Lib.hid l1
  have L2 := Lib.hid l2
  have L3 := Lib.hid l3
  clear l1 l2 l3
  go_enter Tryz.func10, Tryz.ntmps10
  go_wp2_with fail
  refine (WK.out.call HT.out (by repeat (with_reducible (first | exact Below.refl _ _ | assumption | apply ba | apply bd | apply bdr | (refine bs ?_ (by first | assumption | (simp; done) | (simp; omega))) | (refine bt ?_ (by assumption)))))).mono ?_
  rintro e w1 ⟨rfl, hb1⟩; have B1 : Below w.heap.size w w1 := (by repeat (with_reducible (first | exact Below.refl _ _ | assumption | apply ba | apply bd | apply bdr | (refine bs ?_ (by first | assumption | (simp; done) | (simp; omega))) | (refine bt ?_ (by assumption))))); have y1 := B1.size; have hc1_0 := fun o => (bcell hb1).1 (w.heap.size) o (by first | (simp; done) | assumption | (simp; omega)); have hf1_0 := fun o => (bcell hb1).2 (w.heap.size) o (by first | (simp; done) | assumption | (simp; omega)); have z1_0 : w.heap.size < w1.heap.size := zz hb1 (by first | (simp; done) | assumption | (simp; omega)); have hc1_1 := fun o => (bcell hb1).1 (w.heap.size + 1) o (by first | (simp; done) | assumption | (simp; omega)); have hf1_1 := fun o => (bcell hb1).2 (w.heap.size + 1) o (by first | (simp; done) | assumption | (simp; omega)); have z1_1 : w.heap.size + 1 < w1.heap.size := zz hb1 (by first | (simp; done) | assumption | (simp; omega)); have hc1_2 := fun o => (bcell hb1).1 (w.heap.size + 1 + 1) o (by first | (simp; done) | assumption | (simp; omega)); have hf1_2 := fun o => (bcell hb1).2 (w.heap.size + 1 + 1) o (by first | (simp; done) | assumption | (simp; omega)); have z1_2 : w.heap.size + 1 + 1 < w1.heap.size := zz hb1 (by first | (simp; done) | assumption | (simp; omega))
  go_wp2_with fail
  refine (R1.out.call _).mono ?_
  rintro e w2 ⟨rfl, hb2⟩; have B2 : Below w.heap.size w w2 := (by repeat (with_reducible (first | exact Below.refl _ _ | assumption | apply ba | apply bd | apply bdr | (refine bs ?_ (by first | assumption | (simp; done) | (simp; omega))) | (refine bt ?_ (by assumption))))); have y2 := B2.size; have hc2_0 := fun o => (bcell hb2).1 (w.heap.size) o (by first | (simp; done) | assumption | (simp; omega)); have hf2_0 := fun o => (bcell hb2).2 (w.heap.size) o (by first | (simp; done) | assumption | (simp; omega)); have z2_0 : w.heap.size < w2.heap.size := zz hb2 (by first | (simp; done) | assumption | (simp; omega)); have hc2_1 := fun o => (bcell hb2).1 (w.heap.size + 1) o (by first | (simp; done) | assumption | (simp; omega)); have hf2_1 := fun o => (bcell hb2).2 (w.heap.size + 1) o (by first | (simp; done) | assumption | (simp; omega)); have z2_1 : w.heap.size + 1 < w2.heap.size := zz hb2 (by first | (simp; done) | assumption | (simp; omega)); have hc2_2 := fun o => (bcell hb2).1 (w.heap.size + 1 + 1) o (by first | (simp; done) | assumption | (simp; omega)); have hf2_2 := fun o => (bcell hb2).2 (w.heap.size + 1 + 1) o (by first | (simp; done) | assumption | (simp; omega)); have z2_2 : w.heap.size + 1 + 1 < w2.heap.size := zz hb2 (by first | (simp; done) | assumption | (simp; omega))
  go_wp2_with fail
  refine (R2.out.call _).mono ?_
  rintro e w3 ⟨rfl, hb3⟩; have B3 : Below w.heap.size w w3 := (by repeat (with_reducible (first | exact Below.refl _ _ | assumption | apply ba | apply bd | apply bdr | (refine bs ?_ (by first | assumption | (simp; done) | (simp; omega))) | (refine bt ?_ (by assumption))))); have y3 := B3.size; have hc3_0 := fun o => (bcell hb3).1 (w.heap.size) o (by first | (simp; done) | assumption | (simp; omega)); have hf3_0 := fun o => (bcell hb3).2 (w.heap.size) o (by first | (simp; done) | assumption | (simp; omega)); have z3_0 : w.heap.size < w3.heap.size := zz hb3 (by first | (simp; done) | assumption | (simp; omega)); have hc3_1 := fun o => (bcell hb3).1 (w.heap.size + 1) o (by first | (simp; done) | assumption | (simp; omega)); have hf3_1 := fun o => (bcell hb3).2 (w.heap.size + 1) o (by first | (simp; done) | assumption | (simp; omega)); have z3_1 : w.heap.size + 1 < w3.heap.size := zz hb3 (by first | (simp; done) | assumption | (simp; omega)); have hc3_2 := fun o => (bcell hb3).1 (w.heap.size + 1 + 1) o (by first | (simp; done) | assumption | (simp; omega)); have hf3_2 := fun o => (bcell hb3).2 (w.heap.size + 1 + 1) o (by first | (simp; done) | assumption | (simp; omega)); have z3_2 : w.heap.size + 1 + 1 < w3.heap.size := zz hb3 (by first | (simp; done) | assumption | (simp; omega))
  go_wp2_with fail
  refine (R3.out.call _).mono ?_
  rintro e w4 ⟨rfl, hb4⟩; have B4 : Below w.heap.size w w4 := (by repeat (with_reducible (first | exact Below.refl _ _ | assumption | apply ba | apply bd | apply bdr | (refine bs ?_ (by first | assumption | (simp; done) | (simp; omega))) | (refine bt ?_ (by assumption))))); have y4 := B4.size; have hc4_0 := fun o => (bcell hb4).1 (w.heap.size) o (by first | (simp; done) | assumption | (simp; omega)); have hf4_0 := fun o => (bcell hb4).2 (w.heap.size) o (by first | (simp; done) | assumption | (simp; omega)); have z4_0 : w.heap.size < w4.heap.size := zz hb4 (by first | (simp; done) | assumption | (simp; omega)); have hc4_1 := fun o => (bcell hb4).1 (w.heap.size + 1) o (by first | (simp; done) | assumption | (simp; omega)); have hf4_1 := fun o => (bcell hb4).2 (w.heap.size + 1) o (by first | (simp; done) | assumption | (simp; omega)); have z4_1 : w.heap.size + 1 < w4.heap.size := zz hb4 (by first | (simp; done) | assumption | (simp; omega)); have hc4_2 := fun o => (bcell hb4).1 (w.heap.size + 1 + 1) o (by first | (simp; done) | assumption | (simp; omega)); have hf4_2 := fun o => (bcell hb4).2 (w.heap.size + 1 + 1) o (by first | (simp; done) | assumption | (simp; omega)); have z4_2 : w.heap.size + 1 + 1 < w4.heap.size := zz hb4 (by first | (simp; done) | assumption | (simp; omega))
  go_wp2_with fail
  refine (OAB.out.call _).mono ?_
  rintro e w5 ⟨rfl, hb5⟩; have B5 : Below w.heap.size w w5 := (by repeat (with_reducible (first | exact Below.refl _ _ | assumption | apply ba | apply bd | apply bdr | (refine bs ?_ (by first | assumption | (simp; done) | (simp; omega))) | (refine bt ?_ (by assumption))))); have y5 := B5.size; have hc5_0 := fun o => (bcell hb5).1 (w.heap.size) o (by first | (simp; done) | assumption | (simp; omega)); have hf5_0 := fun o => (bcell hb5).2 (w.heap.size) o (by first | (simp; done) | assumption | (simp; omega)); have z5_0 : w.heap.size < w5.heap.size := zz hb5 (by first | (simp; done) | assumption | (simp; omega)); have hc5_1 := fun o => (bcell hb5).1 (w.heap.size + 1) o (by first | (simp; done) | assumption | (simp; omega)); have hf5_1 := fun o => (bcell hb5).2 (w.heap.size + 1) o (by first | (simp; done) | assumption | (simp; omega)); have z5_1 : w.heap.size + 1 < w5.heap.size := zz hb5 (by first | (simp; done) | assumption | (simp; omega)); have hc5_2 := fun o => (bcell hb5).1 (w.heap.size + 1 + 1) o (by first | (simp; done) | assumption | (simp; omega)); have hf5_2 := fun o => (bcell hb5).2 (w.heap.size + 1 + 1) o (by first | (simp; done) | assumption | (simp; omega)); have z5_2 : w.heap.size + 1 + 1 < w5.heap.size := zz hb5 (by first | (simp; done) | assumption | (simp; omega))
  go_wp2_with fail
  refine (OBA.out.call _).mono ?_
  rintro e w6 ⟨rfl, hb6⟩; have B6 : Below w.heap.size w w6 := (by repeat (with_reducible (first | exact Below.refl _ _ | assumption | apply ba | apply bd | apply bdr | (refine bs ?_ (by first | assumption | (simp; done) | (simp; omega))) | (refine bt ?_ (by assumption))))); have y6 := B6.size; have hc6_0 := fun o => (bcell hb6).1 (w.heap.size) o (by first | (simp; done) | assumption | (simp; omega)); have hf6_0 := fun o => (bcell hb6).2 (w.heap.size) o (by first | (simp; done) | assumption | (simp; omega)); have z6_0 : w.heap.size < w6.heap.size := zz hb6 (by first | (simp; done) | assumption | (simp; omega)); have hc6_1 := fun o => (bcell hb6).1 (w.heap.size + 1) o (by first | (simp; done) | assumption | (simp; omega)); have hf6_1 := fun o => (bcell hb6).2 (w.heap.size + 1) o (by first | (simp; done) | assumption | (simp; omega)); have z6_1 : w.heap.size + 1 < w6.heap.size := zz hb6 (by first | (simp; done) | assumption | (simp; omega)); have hc6_2 := fun o => (bcell hb6).1 (w.heap.size + 1 + 1) o (by first | (simp; done) | assumption | (simp; omega)); have hf6_2 := fun o => (bcell hb6).2 (w.heap.size + 1 + 1) o (by first | (simp; done) | assumption | (simp; omega)); have z6_2 : w.heap.size + 1 + 1 < w6.heap.size := zz hb6 (by first | (simp; done) | assumption | (simp; omega))
  go_wp2_with fail
  refine (OBC.out.call _).mono ?_
  rintro e w7 ⟨rfl, hb7⟩; have B7 : Below w.heap.size w w7 := (by repeat (with_reducible (first | exact Below.refl _ _ | assumption | apply ba | apply bd | apply bdr | (refine bs ?_ (by first | assumption | (simp; done) | (simp; omega))) | (refine bt ?_ (by assumption))))); have y7 := B7.size; have hc7_0 := fun o => (bcell hb7).1 (w.heap.size) o (by first | (simp; done) | assumption | (simp; omega)); have hf7_0 := fun o => (bcell hb7).2 (w.heap.size) o (by first | (simp; done) | assumption | (simp; omega)); have z7_0 : w.heap.size < w7.heap.size := zz hb7 (by first | (simp; done) | assumption | (simp; omega)); have hc7_1 := fun o => (bcell hb7).1 (w.heap.size + 1) o (by first | (simp; done) | assumption | (simp; omega)); have hf7_1 := fun o => (bcell hb7).2 (w.heap.size + 1) o (by first | (simp; done) | assumption | (simp; omega)); have z7_1 : w.heap.size + 1 < w7.heap.size := zz hb7 (by first | (simp; done) | assumption | (simp; omega)); have hc7_2 := fun o => (bcell hb7).1 (w.heap.size + 1 + 1) o (by first | (simp; done) | assumption | (simp; omega)); have hf7_2 := fun o => (bcell hb7).2 (w.heap.size + 1 + 1) o (by first | (simp; done) | assumption | (simp; omega)); have z7_2 : w.heap.size + 1 + 1 < w7.heap.size := zz hb7 (by first | (simp; done) | assumption | (simp; omega))
  go_wp2_with fail
  refine (OAC.out.call _).mono ?_
  rintro e w8 ⟨rfl, hb8⟩; have B8 : Below w.heap.size w w8 := (by repeat (with_reducible (first | exact Below.refl _ _ | assumption | apply ba | apply bd | apply bdr | (refine bs ?_ (by first | assumption | (simp; done) | (simp; omega))) | (refine bt ?_ (by assumption))))); have y8 := B8.size; have hc8_0 := fun o => (bcell hb8).1 (w.heap.size) o (by first | (simp; done) | assumption | (simp; omega)); have hf8_0 := fun o => (bcell hb8).2 (w.heap.size) o (by first | (simp; done) | assumption | (simp; omega)); have z8_0 : w.heap.size < w8.heap.size := zz hb8 (by first | (simp; done) | assumption | (simp; omega)); have hc8_1 := fun o => (bcell hb8).1 (w.heap.size + 1) o (by first | (simp; done) | assumption | (simp; omega)); have hf8_1 := fun o => (bcell hb8).2 (w.heap.size + 1) o (by first | (simp; done) | assumption | (simp; omega)); have z8_1 : w.heap.size + 1 < w8.heap.size := zz hb8 (by first | (simp; done) | assumption | (simp; omega)); have hc8_2 := fun o => (bcell hb8).1 (w.heap.size + 1 + 1) o (by first | (simp; done) | assumption | (simp; omega)); have hf8_2 := fun o => (bcell hb8).2 (w.heap.size + 1 + 1) o (by first | (simp; done) | assumption | (simp; omega)); have z8_2 : w.heap.size + 1 + 1 < w8.heap.size := zz hb8 (by first | (simp; done) | assumption | (simp; omega))
  go_wp2_with fail
  refine (OAA.out.call _).mono ?_
  rintro e w9 ⟨rfl, hb9⟩; have B9 : Below w.heap.size w w9 := (by repeat (with_reducible (first | exact Below.refl _ _ | assumption | apply ba | apply bd | apply bdr | (refine bs ?_ (by first | assumption | (simp; done) | (simp; omega))) | (refine bt ?_ (by assumption))))); have y9 := B9.size; have hc9_0 := fun o => (bcell hb9).1 (w.heap.size) o (by first | (simp; done) | assumption | (simp; omega)); have hf9_0 := fun o => (bcell hb9).2 (w.heap.size) o (by first | (simp; done) | assumption | (simp; omega)); have z9_0 : w.heap.size < w9.heap.size := zz hb9 (by first | (simp; done) | assumption | (simp; omega)); have hc9_1 := fun o => (bcell hb9).1 (w.heap.size + 1) o (by first | (simp; done) | assumption | (simp; omega)); have hf9_1 := fun o => (bcell hb9).2 (w.heap.size + 1) o (by first | (simp; done) | assumption | (simp; omega)); have z9_1 : w.heap.size + 1 < w9.heap.size := zz hb9 (by first | (simp; done) | assumption | (simp; omega)); have hc9_2 := fun o => (bcell hb9).1 (w.heap.size + 1 + 1) o (by first | (simp; done) | assumption | (simp; omega)); have hf9_2 := fun o => (bcell hb9).2 (w.heap.size + 1 + 1) o (by first | (simp; done) | assumption | (simp; omega)); have z9_2 : w.heap.size + 1 + 1 < w9.heap.size := zz hb9 (by first | (simp; done) | assumption | (simp; omega))
  go_wp2
  all_goals go_ret
  all_goals have q1 := L1.out
  all_goals have q2 := L2.out
  all_goals have q3 := L3.out
  all_goals exact ⟨by first | rfl | (exact ret_bool (by first | rfl | (exfalso; omega) | (simp only [decide_eq_true_eq, beq_iff_eq]; omega) | (simp; omega))), by repeat (with_reducible (first | exact Below.refl _ _ | assumption | apply ba | apply bd | apply bdr | (refine bs ?_ (by first | assumption | (simp; done) | (simp; omega))) | (refine bt ?_ (by assumption))))⟩
theorem c_range {a b : AV} {x : Int} (ha : a.ok) (hb : b.ok) (h : orderZ a b = some x) : -1 ≤ x ∧ x ≤ 1 := by
  rw [order_key a b ha hb] at h
  split at h
  · injection h with h
    subst h
    split
    · rcases cb_range (tkey a) (tkey b) with r | r | r <;> rw [r] <;> decide
    · rcases c3_range (nkey a) (nkey b) with r | r | r <;> rw [r] <;> decide
  · cases h
theorem out_o (r : Option Int) : ∃ x e, outO r = .tuple #[.int .i64 x, .int .i64 e] ∧ (r = none → e ≠ 0) := by
  cases r with
  | none => exact ⟨_, _, rfl, fun _ => by decide⟩
  | some x => exact ⟨_, _, rfl, fun h => by cases h⟩
theorem orders_law (k1 n1 c1 : Int) (l1 : List UInt8) (b1 : Bool) (k2 n2 c2 : Int) (l2 : List UInt8) (b2 : Bool) (k3 n3 c3 : Int) (l3 : List UInt8) (b3 : Bool) (hn1 : InI n1) (hc1 : InI c1) (hl1 : l1.length ≤ 1048576) (hn2 : InI n2) (hc2 : InI c2) (hl2 : l2.length ≤ 1048576) (hn3 : InI n3) (hc3 : InI c3) (hl3 : l3.length ≤ 1048576) (w : World) (hT : TT w) : Calls Tryz.prog 10 #[.agg #[.int .i64 k1, .int .i64 n1, .int .i64 c1, .string (ba' l1), .bool b1], .agg #[.int .i64 k2, .int .i64 n2, .int .i64 c2, .string (ba' l2), .bool b2], .agg #[.int .i64 k3, .int .i64 n3, .int .i64 c3, .string (ba' l3), .bool b3]] w fun e w' => e = .returned (.bool true) ∧ Below w.heap.size w w' := by
  rcases refR_cases k1 n1 c1 l1 b1 hn1 hc1 hl1 with ⟨a, ha, ea, Ra⟩ | Ra
  · rw [ea]
    obtain ⟨k1', n1', c1', s1, b1', e1⟩ := v_fields a
    rcases refR_cases k2 n2 c2 l2 b2 hn2 hc2 hl2 with ⟨b, hb, eb, Rb⟩ | Rb
    · rw [eb]
      obtain ⟨k2', n2', c2', s2, b2', e2⟩ := v_fields b
      rcases refR_cases k3 n3 c3 l3 b3 hn3 hc3 hl3 with ⟨c, hc, ec, Rc⟩ | Rc
      · rw [ec]
        obtain ⟨k3', n3', c3', s3, b3', e3⟩ := v_fields c
        have oab := order_av a b ha hb
        have oba := order_av b a hb ha
        have obc := order_av b c hb hc
        have oac := order_av a c ha hc
        have oaa := order_av a a ha ha
        rw [order_self a ha] at oaa
        rw [order_turn a b ha hb] at oba
        cases hab : orderZ a b with
        | none =>
          have hno := order_none ha hb hc hab
          rw [hab] at oab oba
          obtain ⟨z, g, ez, hz⟩ := out_o (orderZ b c)
          obtain ⟨v, h, ev, hv⟩ := out_o (orderZ a c)
          rw [ez] at obc
          rw [ev] at oac
          rw [e1] at Ra oaa; rw [e2] at Rb; rw [e3] at Rc; rw [e1, e2] at oab; rw [e2, e1] at oba; rw [e2, e3] at obc; rw [e1, e3] at oac; rw [e1, e2, e3]
          exact orders_a k1' n1' c1' s1 b1' k2' n2' c2' s2 b2' k3' n3' c3' s3 b3' z g v h w hT Ra Rb Rc oab oba obc oac oaa (hno.elim (fun h => .inl (hz h)) (fun h => .inr (hv h)))
        | some x =>
          have hx := c_range ha hb hab
          rw [hab] at oab oba
          cases hbc : orderZ b c with
          | none =>
            rw [hbc] at obc
            obtain ⟨v, h, ev, _⟩ := out_o (orderZ a c)
            rw [ev] at oac
            rw [e1] at Ra oaa; rw [e2] at Rb; rw [e3] at Rc; rw [e1, e2] at oab; rw [e2, e1] at oba; rw [e2, e3] at obc; rw [e1, e3] at oac; rw [e1, e2, e3]
            exact orders_b k1' n1' c1' s1 b1' k2' n2' c2' s2 b2' k3' n3' c3' s3 b3' x v h w hT Ra Rb Rc oab oba obc oac oaa hx.1 hx.2
          | some z =>
            obtain ⟨v, hv, q1, q2, q3⟩ := order_third ha hb hc hab hbc
            rw [hbc] at obc
            rw [hv] at oac
            rw [e1] at Ra oaa; rw [e2] at Rb; rw [e3] at Rc; rw [e1, e2] at oab; rw [e2, e1] at oba; rw [e2, e3] at obc; rw [e1, e3] at oac; rw [e1, e2, e3]
            exact orders_c k1' n1' c1' s1 b1' k2' n2' c2' s2 b2' k3' n3' c3' s3 b3' x z v w hT Ra Rb Rc oab oba obc oac oaa hx.1 hx.2 q1 q2 q3
      · rw [e1] at Ra; rw [e2] at Rb; rw [e1, e2]
        exact orders_no3 k1' n1' c1' s1 b1' k2' n2' c2' s2 b2' k3 n3 c3 (ba' l3) b3 w hT Ra Rb Rc
    · rw [e1] at Ra; rw [e1]
      exact orders_no2 k1' n1' c1' s1 b1' k2 n2 c2 (ba' l2) b2 k3 n3 c3 (ba' l3) b3 w hT Ra Rb
  · exact orders_no1 k1 n1 c1 (ba' l1) b1 k2 n2 c2 (ba' l2) b2 k3 n3 c3 (ba' l3) b3 w hT Ra
end Go.Proofs.YtemgabmafmehnaaGreatDoor
