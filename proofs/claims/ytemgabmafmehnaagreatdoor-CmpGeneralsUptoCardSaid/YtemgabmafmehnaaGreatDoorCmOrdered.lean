/- The order of values, as a plain one. No condition beyond what the theorems state. -/
import Derived.Test.YtemgabmafmehnaaGreatDoorCmOrder
import Derived.Test.YtemgabmafmehnaaGreatDoorAtWrites
namespace Go.Proofs.YtemgabmafmehnaaGreatDoor
open Go.Shelf Go.RowKit Go.Lib Go.Proofs.Wide Go.Proofs.Dig
set_option maxRecDepth 100000
set_option maxHeartbeats 8000000
theorem lt_iff (a b : UInt8) : a < b ↔ a.toNat < b.toNat := UInt8.lt_iff_toNat_lt
theorem cb_cons (a b : UInt8) (ar br : List UInt8) : compareBytes (a :: ar) (b :: br) = if a.toNat < b.toNat then -1 else if b.toNat < a.toNat then 1 else compareBytes ar br := by
  simp only [compareBytes, lt_iff]
theorem cb_range : ∀ (a b : List UInt8), compareBytes a b = -1 ∨ compareBytes a b = 0 ∨ compareBytes a b = 1
  | [], [] => .inr (.inl rfl)
  | [], _ :: _ => .inl rfl
  | _ :: _, [] => .inr (.inr rfl)
  | a :: ar, b :: br => by
    rw [cb_cons]
    split
    · exact .inl rfl
    · split
      · exact .inr (.inr rfl)
      · exact cb_range ar br
theorem cb_anti : ∀ (a b : List UInt8), compareBytes b a = - compareBytes a b
  | [], [] => rfl
  | [], _ :: _ => rfl
  | _ :: _, [] => rfl
  | a :: ar, b :: br => by
    rw [cb_cons, cb_cons, cb_anti ar br]
    split
    · split
      · omega
      · rfl
    · split <;> rfl
theorem u8_eq {a b : UInt8} (h : a.toNat = b.toNat) : a = b := UInt8.toNat_inj.1 h
theorem cb_zero : ∀ (a b : List UInt8), compareBytes a b = 0 → a = b
  | [], [], _ => rfl
  | [], _ :: _, h => by cases h
  | _ :: _, [], h => by cases h
  | a :: ar, b :: br, h => by
    rw [cb_cons] at h
    split at h
    · cases h
    · split at h
      · cases h
      · rw [u8_eq (by omega : a.toNat = b.toNat), cb_zero ar br h]
theorem cb_self : ∀ (a : List UInt8), compareBytes a a = 0
  | [] => rfl
  | a :: ar => by rw [cb_cons, if_neg (by omega), if_neg (by omega), cb_self ar]
theorem cb_trans : ∀ (a b c : List UInt8), compareBytes a b < 0 → compareBytes b c < 0 → compareBytes a c < 0
  | [], [], _, h, _ => by cases h
  | [], _ :: _, [], _, h => by cases h
  | [], _ :: _, _ :: _, _, _ => by show (-1 : Int) < 0; decide
  | _ :: _, [], _, h, _ => by cases h
  | _ :: _, _ :: _, [], _, h => by cases h
  | x :: a, y :: b, z :: c, h1, h2 => by
    rw [cb_cons] at h1 h2 ⊢
    by_cases e1 : x.toNat < y.toNat
    · by_cases e2 : y.toNat < z.toNat
      · rw [if_pos (by omega)]; decide
      · rw [if_neg e2] at h2
        by_cases e3 : z.toNat < y.toNat
        · rw [if_pos e3] at h2; exact absurd h2 (by decide)
        · rw [if_pos (by omega)]; decide
    · rw [if_neg e1] at h1
      by_cases e4 : y.toNat < x.toNat
      · rw [if_pos e4] at h1; exact absurd h1 (by decide)
      · rw [if_neg e4] at h1
        by_cases e2 : y.toNat < z.toNat
        · rw [if_pos (by omega)]; decide
        · rw [if_neg e2] at h2
          by_cases e3 : z.toNat < y.toNat
          · rw [if_pos e3] at h2; exact absurd h2 (by decide)
          · rw [if_neg e3] at h2
            rw [if_neg (by omega), if_neg (by omega)]
            exact cb_trans a b c h1 h2
theorem sc_comm' (k l : Nat) : sc k l = sc l k := by unfold sc; omega
theorem lx_v9 (n : Int) {k l : Nat} (hk : k ≤ 9) (hl : l ≤ 9) : lx n k l * 10 ^ (9 - sc k l) = v9 n k := by
  unfold lx; exact v9_at n k (sc k l) (by unfold sc; omega) (by unfold sc; omega)
theorem lx_v9' (m : Int) {k l : Nat} (hk : k ≤ 9) (hl : l ≤ 9) : lx m l k * 10 ^ (9 - sc k l) = v9 m l := by rw [sc_comm']; exact lx_v9 m hl hk
theorem cmp_eq {n m : Int} {k l : Nat} (hk : k ≤ 9) (hl : l ≤ 9) : cmpZ n k m l = if v9 n k < v9 m l then -1 else if v9 n k = v9 m l then 0 else 1 := by
  have p := ten_pos (9 - sc k l)
  unfold cmpZ
  rw [← lx_v9 n hk hl, ← lx_v9' m hk hl]
  have h1 : lx n k l < lx m l k ↔ lx n k l * 10 ^ (9 - sc k l) < lx m l k * 10 ^ (9 - sc k l) := ⟨fun h => Int.mul_lt_mul_of_pos_right h p, fun h => Int.lt_of_mul_lt_mul_right h (Int.le_of_lt p)⟩
  have h2 : lx n k l = lx m l k ↔ lx n k l * 10 ^ (9 - sc k l) = lx m l k * 10 ^ (9 - sc k l) := ⟨fun h => by rw [h], fun h => Int.eq_of_mul_eq_mul_right (Int.ne_of_gt p) h⟩
  simp only [h1, h2]
/-- A value's group, and what it is ordered by there. -/
def grp : AV → Nat
  | .int _ => 0
  | .dec _ _ => 0
  | .str _ => 1
  | .raw _ => 1
  | .boo _ => 2
def nkey : AV → Int
  | .int n => v9 n 0
  | .dec n c => v9 n c
  | .boo b => if b then 1 else 0
  | _ => 0
def tkey : AV → List UInt8
  | .str l => l
  | .raw l => l
  | _ => []
def cmp3 (x y : Int) : Int := if x < y then -1 else if x = y then 0 else 1
theorem order_key (a b : AV) (ha : a.ok) (hb : b.ok) : orderZ a b = if grp a = grp b then some (if grp a = 1 then compareBytes (tkey a) (tkey b) else cmp3 (nkey a) (nkey b)) else none := by
  cases a with
  | int n =>
    cases b with
    | int m => show some (cmpZ n 0 m 0) = some (cmp3 (v9 n 0) (v9 m 0)); rw [cmp_eq (by omega) (by omega)]; rfl
    | dec m d => show some (cmpZ n 0 m d) = some (cmp3 (v9 n 0) (v9 m d)); rw [cmp_eq (by omega) hb.2.2.1]; rfl
    | str u => rfl
    | boo y => rfl
    | raw u => rfl
  | dec n c =>
    cases b with
    | int m => show some (cmpZ n c m 0) = some (cmp3 (v9 n c) (v9 m 0)); rw [cmp_eq ha.2.2.1 (by omega)]; rfl
    | dec m d => show some (cmpZ n c m d) = some (cmp3 (v9 n c) (v9 m d)); rw [cmp_eq ha.2.2.1 hb.2.2.1]; rfl
    | str u => rfl
    | boo y => rfl
    | raw u => rfl
  | str l => cases b <;> rfl
  | boo x =>
    cases b with
    | boo y => cases x <;> cases y <;> rfl
    | int m => rfl
    | dec m d => rfl
    | str u => rfl
    | raw u => rfl
  | raw l => cases b <;> rfl
theorem c3_range (x y : Int) : cmp3 x y = -1 ∨ cmp3 x y = 0 ∨ cmp3 x y = 1 := by
  unfold cmp3; split
  · exact .inl rfl
  · split
    · exact .inr (.inl rfl)
    · exact .inr (.inr rfl)
theorem order_self (a : AV) (ha : a.ok) : orderZ a a = some 0 := by
  rw [order_key a a ha ha, if_pos rfl]
  split
  · rw [cb_self]
  · unfold cmp3; rw [if_neg (by omega), if_pos rfl]
theorem order_turn (a b : AV) (ha : a.ok) (hb : b.ok) : orderZ b a = (orderZ a b).map fun r => -r := by
  rw [order_key a b ha hb, order_key b a hb ha]
  by_cases h : grp a = grp b
  · rw [if_pos h, if_pos h.symm]
    by_cases h1 : grp a = 1
    · rw [if_pos h1, if_pos (h ▸ h1), cb_anti]; rfl
    · rw [if_neg h1, if_neg (h ▸ h1)]
      show some (cmp3 (nkey b) (nkey a)) = some (-(cmp3 (nkey a) (nkey b)))
      congr 1
      unfold cmp3
      repeat' split
      all_goals omega
  · rw [if_neg h, if_neg (Ne.symm h)]; rfl
theorem order_none {a b c : AV} (ha : a.ok) (hb : b.ok) (hc : c.ok) (h : orderZ a b = none) : orderZ b c = none ∨ orderZ a c = none := by
  rw [order_key a b ha hb] at h
  rw [order_key b c hb hc, order_key a c ha hc]
  by_cases h1 : grp b = grp c
  · right
    rw [if_neg]
    intro h2
    rw [if_pos (h2.trans h1.symm)] at h
    cases h
  · left; rw [if_neg h1]
theorem order_third {a b c : AV} {x z : Int} (ha : a.ok) (hb : b.ok) (hc : c.ok) (h1 : orderZ a b = some x) (h2 : orderZ b c = some z) :
    ∃ w, orderZ a c = some w ∧ (0 < x ∨ 0 < z ∨ w ≤ 0) ∧ (x ≠ 0 ∨ w = z) ∧ (0 ≤ x ∨ 0 < z ∨ w < 0) := by
  rw [order_key a b ha hb] at h1
  rw [order_key b c hb hc] at h2
  rw [order_key a c ha hc]
  by_cases g1 : grp a = grp b
  · by_cases g2 : grp b = grp c
    · rw [if_pos g1] at h1
      rw [if_pos g2] at h2
      rw [if_pos (g1.trans g2)]
      refine ⟨_, rfl, ?_⟩
      injection h1 with h1
      injection h2 with h2
      by_cases g : grp a = 1
      · rw [if_pos g] at h1 ⊢
        rw [if_pos (g1 ▸ g)] at h2
        have r1 := cb_range (tkey a) (tkey b)
        have r2 := cb_range (tkey b) (tkey c)
        rcases r1 with r1 | r1 | r1
        · rcases r2 with r2 | r2 | r2
          · have := cb_trans _ _ _ (by rw [r1]; decide) (by rw [r2]; decide : compareBytes (tkey b) (tkey c) < 0)
            omega
          · rw [← cb_zero _ _ r2]; omega
          · omega
        · rw [cb_zero _ _ r1]; omega
        · omega
      · rw [if_neg g] at h1 ⊢
        rw [if_neg (g1 ▸ g)] at h2
        subst h1; subst h2
        unfold cmp3
        repeat' split
        all_goals omega
    · rw [if_neg g2] at h2; cases h2
  · rw [if_neg g1] at h1; cases h1
end Go.Proofs.YtemgabmafmehnaaGreatDoor
