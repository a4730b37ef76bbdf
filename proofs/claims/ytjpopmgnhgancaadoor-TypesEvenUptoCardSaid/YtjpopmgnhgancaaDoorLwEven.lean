/- The statement TypesEven: its walk. No condition beyond what the theorems state. -/
import Derived.Test.YtjpopmgnhgancaaDoorRegEven
namespace Go.Proofs.YtjpopmgnhgancaaDoor
open Go.RowKit Go.Lib
set_option maxRecDepth 100000
set_option maxHeartbeats 16000000
def AT (i o : Int) (l : List UInt8) : Value := .agg #[.int .i64 i, .string (ba' l), .int .i64 o]
theorem even_not (ai ao bi bo ci co : Int) (an bn cn : List UInt8) (ha : an.length ≤ 1099511627776) (hb : bn.length ≤ 1099511627776) (hc : cn.length ≤ 1099511627776) (w : World) (hE : TE w)
    (h : rightB ai an ao = false ∨ (rightB ai an ao = true ∧ rightB bi bn bo = false) ∨ (rightB ai an ao = true ∧ rightB bi bn bo = true ∧ rightB ci cn co = false)) :
    Calls Tryd.prog 6 #[.agg #[.int .i64 ai, .string (ba' an), .int .i64 ao], .agg #[.int .i64 bi, .string (ba' bn), .int .i64 bo], .agg #[.int .i64 ci, .string (ba' cn), .int .i64 co]] w fun e w' => e = .returned (.bool true) ∧ Below w.heap.size w w' := by
  have HA : Hid (∀ w1, Below w.heap.size w w1 → Calls Tryd.prog 8 #[] w1 fun e w' => e = .returned (.bool true) ∧ Below w1.heap.size w1 w') := Lib.hid fun w1 h1 => awake_any w1 (hE.below h1)
  have HR : Hid (∀ (i o : Int) (l : List UInt8) (w1 : World), l.length ≤ 1099511627776 → Calls Tryd.prog 10 #[.agg #[.int .i64 i, .string (ba' l), .int .i64 o]] w1 fun e w' => e = .returned (.bool (rightB i l o)) ∧ Below w1.heap.size w1 w') := Lib.hid fun i o l w1 hl => right_ref i o l hl w1
  clear hE
  have HRa := Lib.hid (fun w1 => HR.out ai ao an w1 ha)
  have HRb := Lib.hid (fun w1 => HR.out bi bo bn w1 hb)
  have HRc := Lib.hid (fun w1 => HR.out ci co cn w1 hc)
  clear HR ha hb hc
  rcases h with h | ⟨h, h'⟩ | ⟨h, h', h''⟩
  · rw [h] at HRa
    go_enter Tryd.func6, Tryd.ntmps6
    go_wp2_with fail
    refine (HA.out _ (by repeat (with_reducible (first | exact Below.refl _ _ | assumption | apply ba | apply bd | apply bdr | (refine bs ?_ (by first | assumption | (simp; done) | (simp; omega))) | (refine bt ?_ (by assumption)))))).mono ?_
    rintro e w1 ⟨rfl, hb1⟩
    have B1 : Below w.heap.size w w1 := (by repeat (with_reducible (first | exact Below.refl _ _ | assumption | apply ba | apply bd | apply bdr | (refine bs ?_ (by first | assumption | (simp; done) | (simp; omega))) | (refine bt ?_ (by assumption)))))
    have hc1_0 := fun o => (bcell hb1).1 (w.heap.size) o (by first | (simp; done) | assumption | (simp; omega))
    have zz1_0 : w.heap.size < w1.heap.size := zz hb1 (by first | (simp; done) | assumption | (simp; omega))
    have hc1_1 := fun o => (bcell hb1).1 (w.heap.size + 1) o (by first | (simp; done) | assumption | (simp; omega))
    have zz1_1 : w.heap.size + 1 < w1.heap.size := zz hb1 (by first | (simp; done) | assumption | (simp; omega))
    have hc1_2 := fun o => (bcell hb1).1 (w.heap.size + 1 + 1) o (by first | (simp; done) | assumption | (simp; omega))
    have zz1_2 : w.heap.size + 1 + 1 < w1.heap.size := zz hb1 (by first | (simp; done) | assumption | (simp; omega))
    go_wp2_with fail
    refine (HRa.out _).mono ?_
    rintro e w2 ⟨rfl, hb2⟩
    have B2 : Below w.heap.size w w2 := (by repeat (with_reducible (first | exact Below.refl _ _ | assumption | apply ba | apply bd | apply bdr | (refine bs ?_ (by first | assumption | (simp; done) | (simp; omega))) | (refine bt ?_ (by assumption)))))
    have hc2_0 := fun o => (bcell hb2).1 (w.heap.size) o (by first | (simp; done) | assumption | (simp; omega))
    have zz2_0 : w.heap.size < w2.heap.size := zz hb2 (by first | (simp; done) | assumption | (simp; omega))
    have hc2_1 := fun o => (bcell hb2).1 (w.heap.size + 1) o (by first | (simp; done) | assumption | (simp; omega))
    have zz2_1 : w.heap.size + 1 < w2.heap.size := zz hb2 (by first | (simp; done) | assumption | (simp; omega))
    have hc2_2 := fun o => (bcell hb2).1 (w.heap.size + 1 + 1) o (by first | (simp; done) | assumption | (simp; omega))
    have zz2_2 : w.heap.size + 1 + 1 < w2.heap.size := zz hb2 (by first | (simp; done) | assumption | (simp; omega))
    go_wp2_with fail
    refine (HA.out _ (by repeat (with_reducible (first | exact Below.refl _ _ | assumption | apply ba | apply bd | apply bdr | (refine bs ?_ (by first | assumption | (simp; done) | (simp; omega))) | (refine bt ?_ (by assumption)))))).mono ?_
    rintro e w3 ⟨rfl, hb3⟩
    have B3 : Below w.heap.size w w3 := (by repeat (with_reducible (first | exact Below.refl _ _ | assumption | apply ba | apply bd | apply bdr | (refine bs ?_ (by first | assumption | (simp; done) | (simp; omega))) | (refine bt ?_ (by assumption)))))
    have hc3_0 := fun o => (bcell hb3).1 (w.heap.size) o (by first | (simp; done) | assumption | (simp; omega))
    have zz3_0 : w.heap.size < w3.heap.size := zz hb3 (by first | (simp; done) | assumption | (simp; omega))
    have hc3_1 := fun o => (bcell hb3).1 (w.heap.size + 1) o (by first | (simp; done) | assumption | (simp; omega))
    have zz3_1 : w.heap.size + 1 < w3.heap.size := zz hb3 (by first | (simp; done) | assumption | (simp; omega))
    have hc3_2 := fun o => (bcell hb3).1 (w.heap.size + 1 + 1) o (by first | (simp; done) | assumption | (simp; omega))
    have zz3_2 : w.heap.size + 1 + 1 < w3.heap.size := zz hb3 (by first | (simp; done) | assumption | (simp; omega))
    go_wp2
    go_ret
    exact ⟨rfl, by assumption⟩
  · rw [h] at HRa; rw [h'] at HRb
    go_enter Tryd.func6, Tryd.ntmps6
    go_wp2_with fail
    refine (HA.out _ (by repeat (with_reducible (first | exact Below.refl _ _ | assumption | apply ba | apply bd | apply bdr | (refine bs ?_ (by first | assumption | (simp; done) | (simp; omega))) | (refine bt ?_ (by assumption)))))).mono ?_
    rintro e w1 ⟨rfl, hb1⟩
    have B1 : Below w.heap.size w w1 := (by repeat (with_reducible (first | exact Below.refl _ _ | assumption | apply ba | apply bd | apply bdr | (refine bs ?_ (by first | assumption | (simp; done) | (simp; omega))) | (refine bt ?_ (by assumption)))))
    have hc1_0 := fun o => (bcell hb1).1 (w.heap.size) o (by first | (simp; done) | assumption | (simp; omega))
    have zz1_0 : w.heap.size < w1.heap.size := zz hb1 (by first | (simp; done) | assumption | (simp; omega))
    have hc1_1 := fun o => (bcell hb1).1 (w.heap.size + 1) o (by first | (simp; done) | assumption | (simp; omega))
    have zz1_1 : w.heap.size + 1 < w1.heap.size := zz hb1 (by first | (simp; done) | assumption | (simp; omega))
    have hc1_2 := fun o => (bcell hb1).1 (w.heap.size + 1 + 1) o (by first | (simp; done) | assumption | (simp; omega))
    have zz1_2 : w.heap.size + 1 + 1 < w1.heap.size := zz hb1 (by first | (simp; done) | assumption | (simp; omega))
    go_wp2_with fail
    refine (HRa.out _).mono ?_
    rintro e w2 ⟨rfl, hb2⟩
    have B2 : Below w.heap.size w w2 := (by repeat (with_reducible (first | exact Below.refl _ _ | assumption | apply ba | apply bd | apply bdr | (refine bs ?_ (by first | assumption | (simp; done) | (simp; omega))) | (refine bt ?_ (by assumption)))))
    have hc2_0 := fun o => (bcell hb2).1 (w.heap.size) o (by first | (simp; done) | assumption | (simp; omega))
    have zz2_0 : w.heap.size < w2.heap.size := zz hb2 (by first | (simp; done) | assumption | (simp; omega))
    have hc2_1 := fun o => (bcell hb2).1 (w.heap.size + 1) o (by first | (simp; done) | assumption | (simp; omega))
    have zz2_1 : w.heap.size + 1 < w2.heap.size := zz hb2 (by first | (simp; done) | assumption | (simp; omega))
    have hc2_2 := fun o => (bcell hb2).1 (w.heap.size + 1 + 1) o (by first | (simp; done) | assumption | (simp; omega))
    have zz2_2 : w.heap.size + 1 + 1 < w2.heap.size := zz hb2 (by first | (simp; done) | assumption | (simp; omega))
    go_wp2_with fail
    refine (HRb.out _).mono ?_
    rintro e w3 ⟨rfl, hb3⟩
    have B3 : Below w.heap.size w w3 := (by repeat (with_reducible (first | exact Below.refl _ _ | assumption | apply ba | apply bd | apply bdr | (refine bs ?_ (by first | assumption | (simp; done) | (simp; omega))) | (refine bt ?_ (by assumption)))))
    have hc3_0 := fun o => (bcell hb3).1 (w.heap.size) o (by first | (simp; done) | assumption | (simp; omega))
    have zz3_0 : w.heap.size < w3.heap.size := zz hb3 (by first | (simp; done) | assumption | (simp; omega))
    have hc3_1 := fun o => (bcell hb3).1 (w.heap.size + 1) o (by first | (simp; done) | assumption | (simp; omega))
    have zz3_1 : w.heap.size + 1 < w3.heap.size := zz hb3 (by first | (simp; done) | assumption | (simp; omega))
    have hc3_2 := fun o => (bcell hb3).1 (w.heap.size + 1 + 1) o (by first | (simp; done) | assumption | (simp; omega))
    have zz3_2 : w.heap.size + 1 + 1 < w3.heap.size := zz hb3 (by first | (simp; done) | assumption | (simp; omega))
    go_wp2_with fail
    refine (HA.out _ (by repeat (with_reducible (first | exact Below.refl _ _ | assumption | apply ba | apply bd | apply bdr | (refine bs ?_ (by first | assumption | (simp; done) | (simp; omega))) | (refine bt ?_ (by assumption)))))).mono ?_
    rintro e w4 ⟨rfl, hb4⟩
    have B4 : Below w.heap.size w w4 := (by repeat (with_reducible (first | exact Below.refl _ _ | assumption | apply ba | apply bd | apply bdr | (refine bs ?_ (by first | assumption | (simp; done) | (simp; omega))) | (refine bt ?_ (by assumption)))))
    have hc4_0 := fun o => (bcell hb4).1 (w.heap.size) o (by first | (simp; done) | assumption | (simp; omega))
    have zz4_0 : w.heap.size < w4.heap.size := zz hb4 (by first | (simp; done) | assumption | (simp; omega))
    have hc4_1 := fun o => (bcell hb4).1 (w.heap.size + 1) o (by first | (simp; done) | assumption | (simp; omega))
    have zz4_1 : w.heap.size + 1 < w4.heap.size := zz hb4 (by first | (simp; done) | assumption | (simp; omega))
    have hc4_2 := fun o => (bcell hb4).1 (w.heap.size + 1 + 1) o (by first | (simp; done) | assumption | (simp; omega))
    have zz4_2 : w.heap.size + 1 + 1 < w4.heap.size := zz hb4 (by first | (simp; done) | assumption | (simp; omega))
    go_wp2
    go_ret
    exact ⟨rfl, by assumption⟩
  · rw [h] at HRa; rw [h'] at HRb; rw [h''] at HRc
    go_enter Tryd.func6, Tryd.ntmps6
    go_wp2_with fail
    refine (HA.out _ (by repeat (with_reducible (first | exact Below.refl _ _ | assumption | apply ba | apply bd | apply bdr | (refine bs ?_ (by first | assumption | (simp; done) | (simp; omega))) | (refine bt ?_ (by assumption)))))).mono ?_
    rintro e w1 ⟨rfl, hb1⟩
    have B1 : Below w.heap.size w w1 := (by repeat (with_reducible (first | exact Below.refl _ _ | assumption | apply ba | apply bd | apply bdr | (refine bs ?_ (by first | assumption | (simp; done) | (simp; omega))) | (refine bt ?_ (by assumption)))))
    have hc1_0 := fun o => (bcell hb1).1 (w.heap.size) o (by first | (simp; done) | assumption | (simp; omega))
    have zz1_0 : w.heap.size < w1.heap.size := zz hb1 (by first | (simp; done) | assumption | (simp; omega))
    have hc1_1 := fun o => (bcell hb1).1 (w.heap.size + 1) o (by first | (simp; done) | assumption | (simp; omega))
    have zz1_1 : w.heap.size + 1 < w1.heap.size := zz hb1 (by first | (simp; done) | assumption | (simp; omega))
    have hc1_2 := fun o => (bcell hb1).1 (w.heap.size + 1 + 1) o (by first | (simp; done) | assumption | (simp; omega))
    have zz1_2 : w.heap.size + 1 + 1 < w1.heap.size := zz hb1 (by first | (simp; done) | assumption | (simp; omega))
    go_wp2_with fail
    refine (HRa.out _).mono ?_
    rintro e w2 ⟨rfl, hb2⟩
    have B2 : Below w.heap.size w w2 := (by repeat (with_reducible (first | exact Below.refl _ _ | assumption | apply ba | apply bd | apply bdr | (refine bs ?_ (by first | assumption | (simp; done) | (simp; omega))) | (refine bt ?_ (by assumption)))))
    have hc2_0 := fun o => (bcell hb2).1 (w.heap.size) o (by first | (simp; done) | assumption | (simp; omega))
    have zz2_0 : w.heap.size < w2.heap.size := zz hb2 (by first | (simp; done) | assumption | (simp; omega))
    have hc2_1 := fun o => (bcell hb2).1 (w.heap.size + 1) o (by first | (simp; done) | assumption | (simp; omega))
    have zz2_1 : w.heap.size + 1 < w2.heap.size := zz hb2 (by first | (simp; done) | assumption | (simp; omega))
    have hc2_2 := fun o => (bcell hb2).1 (w.heap.size + 1 + 1) o (by first | (simp; done) | assumption | (simp; omega))
    have zz2_2 : w.heap.size + 1 + 1 < w2.heap.size := zz hb2 (by first | (simp; done) | assumption | (simp; omega))
    go_wp2_with fail
    refine (HRb.out _).mono ?_
    rintro e w3 ⟨rfl, hb3⟩
    have B3 : Below w.heap.size w w3 := (by repeat (with_reducible (first | exact Below.refl _ _ | assumption | apply ba | apply bd | apply bdr | (refine bs ?_ (by first | assumption | (simp; done) | (simp; omega))) | (refine bt ?_ (by assumption)))))
    have hc3_0 := fun o => (bcell hb3).1 (w.heap.size) o (by first | (simp; done) | assumption | (simp; omega))
    have zz3_0 : w.heap.size < w3.heap.size := zz hb3 (by first | (simp; done) | assumption | (simp; omega))
    have hc3_1 := fun o => (bcell hb3).1 (w.heap.size + 1) o (by first | (simp; done) | assumption | (simp; omega))
    have zz3_1 : w.heap.size + 1 < w3.heap.size := zz hb3 (by first | (simp; done) | assumption | (simp; omega))
    have hc3_2 := fun o => (bcell hb3).1 (w.heap.size + 1 + 1) o (by first | (simp; done) | assumption | (simp; omega))
    have zz3_2 : w.heap.size + 1 + 1 < w3.heap.size := zz hb3 (by first | (simp; done) | assumption | (simp; omega))
    go_wp2_with fail
    refine (HRc.out _).mono ?_
    rintro e w4 ⟨rfl, hb4⟩
    have B4 : Below w.heap.size w w4 := (by repeat (with_reducible (first | exact Below.refl _ _ | assumption | apply ba | apply bd | apply bdr | (refine bs ?_ (by first | assumption | (simp; done) | (simp; omega))) | (refine bt ?_ (by assumption)))))
    have hc4_0 := fun o => (bcell hb4).1 (w.heap.size) o (by first | (simp; done) | assumption | (simp; omega))
    have zz4_0 : w.heap.size < w4.heap.size := zz hb4 (by first | (simp; done) | assumption | (simp; omega))
    have hc4_1 := fun o => (bcell hb4).1 (w.heap.size + 1) o (by first | (simp; done) | assumption | (simp; omega))
    have zz4_1 : w.heap.size + 1 < w4.heap.size := zz hb4 (by first | (simp; done) | assumption | (simp; omega))
    have hc4_2 := fun o => (bcell hb4).1 (w.heap.size + 1 + 1) o (by first | (simp; done) | assumption | (simp; omega))
    have zz4_2 : w.heap.size + 1 + 1 < w4.heap.size := zz hb4 (by first | (simp; done) | assumption | (simp; omega))
    go_wp2_with fail
    refine (HA.out _ (by repeat (with_reducible (first | exact Below.refl _ _ | assumption | apply ba | apply bd | apply bdr | (refine bs ?_ (by first | assumption | (simp; done) | (simp; omega))) | (refine bt ?_ (by assumption)))))).mono ?_
    rintro e w5 ⟨rfl, hb5⟩
    have B5 : Below w.heap.size w w5 := (by repeat (with_reducible (first | exact Below.refl _ _ | assumption | apply ba | apply bd | apply bdr | (refine bs ?_ (by first | assumption | (simp; done) | (simp; omega))) | (refine bt ?_ (by assumption)))))
    have hc5_0 := fun o => (bcell hb5).1 (w.heap.size) o (by first | (simp; done) | assumption | (simp; omega))
    have zz5_0 : w.heap.size < w5.heap.size := zz hb5 (by first | (simp; done) | assumption | (simp; omega))
    have hc5_1 := fun o => (bcell hb5).1 (w.heap.size + 1) o (by first | (simp; done) | assumption | (simp; omega))
    have zz5_1 : w.heap.size + 1 < w5.heap.size := zz hb5 (by first | (simp; done) | assumption | (simp; omega))
    have hc5_2 := fun o => (bcell hb5).1 (w.heap.size + 1 + 1) o (by first | (simp; done) | assumption | (simp; omega))
    have zz5_2 : w.heap.size + 1 + 1 < w5.heap.size := zz hb5 (by first | (simp; done) | assumption | (simp; omega))
    go_wp2
    go_ret
    exact ⟨rfl, by assumption⟩
theorem gt_e {a b : TT} (ha : GT a) (hb : GT b) : GT (eitherT [a, b]) := by rw [either2]; exact gt_made (with_gk ha.1 hb.1)
theorem gt_j {a b : TT} (ha : GT a) (hb : GT b) : GT (joinT [a, b]) := by rw [join2]; exact gt_made (with_gk ha.1 hb.1)
theorem even_right_a (a : TT) (hpl : plainT a = a) (b c : TT) (ha : GT a) (hb : GT b) (hc : GT c) (hla : a.k.n.length ≤ 1099511627776) (hlb : b.k.n.length ≤ 1099511627776) (hlc : c.k.n.length ≤ 1099511627776) (hra : rightB (a.k.i : Nat) a.k.n (a.o : Nat) = true) (hrb : rightB (b.k.i : Nat) b.k.n (b.o : Nat) = true) (hrc : rightB (c.k.i : Nat) c.k.n (c.o : Nat) = true) (w : World) (hE : TE w) :
    Calls Tryd.prog 6 #[.agg #[.int .i64 (a.k.i : Nat), .string (ba' a.k.n), .int .i64 (a.o : Nat)], .agg #[.int .i64 (b.k.i : Nat), .string (ba' b.k.n), .int .i64 (b.o : Nat)], .agg #[.int .i64 (c.k.i : Nat), .string (ba' c.k.n), .int .i64 (c.o : Nat)]] w fun e w' => e = .returned (.bool true) ∧ Below w.heap.size w w' := by
  have HA : Hid (∀ w1, Below w.heap.size w w1 → Calls Tryd.prog 8 #[] w1 fun e w' => e = .returned (.bool true) ∧ Below w1.heap.size w1 w') := Lib.hid fun w1 h1 => awake_any w1 (hE.below h1)
  have HRa : Hid (∀ w1 : World, Calls Tryd.prog 10 #[.agg #[.int .i64 (a.k.i : Nat), .string (ba' a.k.n), .int .i64 (a.o : Nat)]] w1 fun e w' => e = .returned (.bool true) ∧ Below w1.heap.size w1 w') := Lib.hid fun w1 => by
    have h := right_ref (a.k.i : Nat) (a.o : Nat) a.k.n hla w1
    rw [hra] at h
    exact h
  have HRb : Hid (∀ w1 : World, Calls Tryd.prog 10 #[.agg #[.int .i64 (b.k.i : Nat), .string (ba' b.k.n), .int .i64 (b.o : Nat)]] w1 fun e w' => e = .returned (.bool true) ∧ Below w1.heap.size w1 w') := Lib.hid fun w1 => by
    have h := right_ref (b.k.i : Nat) (b.o : Nat) b.k.n hlb w1
    rw [hrb] at h
    exact h
  have HRc : Hid (∀ w1 : World, Calls Tryd.prog 10 #[.agg #[.int .i64 (c.k.i : Nat), .string (ba' c.k.n), .int .i64 (c.o : Nat)]] w1 fun e w' => e = .returned (.bool true) ∧ Below w1.heap.size w1 w') := Lib.hid fun w1 => by
    have h := right_ref (c.k.i : Nat) (c.o : Nat) c.k.n hlc w1
    rw [hrc] at h
    exact h
  have Eab : Hid (∀ w1 g, Below w.heap.size w w1 → g < w1.heap.size → TRow w1 g [a, b] → Calls Tryd.prog 19 #[.slice (some ⟨g, 0, none⟩) 2 2] w1 fun e w' => e = .returned (.agg #[.int .i64 ((eitherT [a, b]).k.i : Nat), .string (ba' (eitherT [a, b]).k.n), .int .i64 ((eitherT [a, b]).o : Nat)]) ∧ Below w1.heap.size w1 w') := Lib.hid fun w1 g h1 hg hr => by
    have h := either_t [a, b] (gt_two ha hb) 2 g rfl (by decide) w1 (hE.below h1) hr hg
    
    exact h
  have Eba : Hid (∀ w1 g, Below w.heap.size w w1 → g < w1.heap.size → TRow w1 g [b, a] → Calls Tryd.prog 19 #[.slice (some ⟨g, 0, none⟩) 2 2] w1 fun e w' => e = .returned (.agg #[.int .i64 ((eitherT [a, b]).k.i : Nat), .string (ba' (eitherT [a, b]).k.n), .int .i64 ((eitherT [a, b]).o : Nat)]) ∧ Below w1.heap.size w1 w') := Lib.hid fun w1 g h1 hg hr => by
    have h := either_t [b, a] (gt_two hb ha) 2 g rfl (by decide) w1 (hE.below h1) hr hg
    rw [show madeT (kAll [b, a] noK) (cAll orC [b, a] (2, 0)) = eitherT [a, b] from (either_comm ha hb).symm] at h
    exact h
  have Jab : Hid (∀ w1 g, Below w.heap.size w w1 → g < w1.heap.size → TRow w1 g [a, b] → Calls Tryd.prog 20 #[.slice (some ⟨g, 0, none⟩) 2 2] w1 fun e w' => e = .returned (.agg #[.int .i64 ((joinT [a, b]).k.i : Nat), .string (ba' (joinT [a, b]).k.n), .int .i64 ((joinT [a, b]).o : Nat)]) ∧ Below w1.heap.size w1 w') := Lib.hid fun w1 g h1 hg hr => by
    have h := join_t [a, b] (gt_two ha hb) 2 g rfl (by decide) w1 (hE.below h1) hr hg
    
    exact h
  have Jba : Hid (∀ w1 g, Below w.heap.size w w1 → g < w1.heap.size → TRow w1 g [b, a] → Calls Tryd.prog 20 #[.slice (some ⟨g, 0, none⟩) 2 2] w1 fun e w' => e = .returned (.agg #[.int .i64 ((joinT [a, b]).k.i : Nat), .string (ba' (joinT [a, b]).k.n), .int .i64 ((joinT [a, b]).o : Nat)]) ∧ Below w1.heap.size w1 w') := Lib.hid fun w1 g h1 hg hr => by
    have h := join_t [b, a] (gt_two hb ha) 2 g rfl (by decide) w1 (hE.below h1) hr hg
    rw [show madeT (kAll [b, a] noK) (cAll plusC [b, a] (0, 0)) = joinT [a, b] from (join_comm ha hb).symm] at h
    exact h
  have Exc : Hid (∀ w1 g, Below w.heap.size w w1 → g < w1.heap.size → TRow w1 g [(eitherT [a, b]), c] → Calls Tryd.prog 19 #[.slice (some ⟨g, 0, none⟩) 2 2] w1 fun e w' => e = .returned (.agg #[.int .i64 ((eitherT [eitherT [a, b], c]).k.i : Nat), .string (ba' (eitherT [eitherT [a, b], c]).k.n), .int .i64 ((eitherT [eitherT [a, b], c]).o : Nat)]) ∧ Below w1.heap.size w1 w') := Lib.hid fun w1 g h1 hg hr => by
    have h := either_t [(eitherT [a, b]), c] (gt_two (gt_e ha hb) hc) 2 g rfl (by decide) w1 (hE.below h1) hr hg
    
    exact h
  have Ebc : Hid (∀ w1 g, Below w.heap.size w w1 → g < w1.heap.size → TRow w1 g [b, c] → Calls Tryd.prog 19 #[.slice (some ⟨g, 0, none⟩) 2 2] w1 fun e w' => e = .returned (.agg #[.int .i64 ((eitherT [b, c]).k.i : Nat), .string (ba' (eitherT [b, c]).k.n), .int .i64 ((eitherT [b, c]).o : Nat)]) ∧ Below w1.heap.size w1 w') := Lib.hid fun w1 g h1 hg hr => by
    have h := either_t [b, c] (gt_two hb hc) 2 g rfl (by decide) w1 (hE.below h1) hr hg
    
    exact h
  have Eav : Hid (∀ w1 g, Below w.heap.size w w1 → g < w1.heap.size → TRow w1 g [a, (eitherT [b, c])] → Calls Tryd.prog 19 #[.slice (some ⟨g, 0, none⟩) 2 2] w1 fun e w' => e = .returned (.agg #[.int .i64 ((eitherT [eitherT [a, b], c]).k.i : Nat), .string (ba' (eitherT [eitherT [a, b], c]).k.n), .int .i64 ((eitherT [eitherT [a, b], c]).o : Nat)]) ∧ Below w1.heap.size w1 w') := Lib.hid fun w1 g h1 hg hr => by
    have h := either_t [a, (eitherT [b, c])] (gt_two ha (gt_e hb hc)) 2 g rfl (by decide) w1 (hE.below h1) hr hg
    rw [show madeT (kAll [a, eitherT [b, c]] noK) (cAll orC [a, eitherT [b, c]] (2, 0)) = eitherT [eitherT [a, b], c] from (either_assoc ha hb hc).symm] at h
    exact h
  have Jyc : Hid (∀ w1 g, Below w.heap.size w w1 → g < w1.heap.size → TRow w1 g [(joinT [a, b]), c] → Calls Tryd.prog 20 #[.slice (some ⟨g, 0, none⟩) 2 2] w1 fun e w' => e = .returned (.agg #[.int .i64 ((joinT [joinT [a, b], c]).k.i : Nat), .string (ba' (joinT [joinT [a, b], c]).k.n), .int .i64 ((joinT [joinT [a, b], c]).o : Nat)]) ∧ Below w1.heap.size w1 w') := Lib.hid fun w1 g h1 hg hr => by
    have h := join_t [(joinT [a, b]), c] (gt_two (gt_j ha hb) hc) 2 g rfl (by decide) w1 (hE.below h1) hr hg
    
    exact h
  have Jbc : Hid (∀ w1 g, Below w.heap.size w w1 → g < w1.heap.size → TRow w1 g [b, c] → Calls Tryd.prog 20 #[.slice (some ⟨g, 0, none⟩) 2 2] w1 fun e w' => e = .returned (.agg #[.int .i64 ((joinT [b, c]).k.i : Nat), .string (ba' (joinT [b, c]).k.n), .int .i64 ((joinT [b, c]).o : Nat)]) ∧ Below w1.heap.size w1 w') := Lib.hid fun w1 g h1 hg hr => by
    have h := join_t [b, c] (gt_two hb hc) 2 g rfl (by decide) w1 (hE.below h1) hr hg
    
    exact h
  have Jau : Hid (∀ w1 g, Below w.heap.size w w1 → g < w1.heap.size → TRow w1 g [a, (joinT [b, c])] → Calls Tryd.prog 20 #[.slice (some ⟨g, 0, none⟩) 2 2] w1 fun e w' => e = .returned (.agg #[.int .i64 ((joinT [joinT [a, b], c]).k.i : Nat), .string (ba' (joinT [joinT [a, b], c]).k.n), .int .i64 ((joinT [joinT [a, b], c]).o : Nat)]) ∧ Below w1.heap.size w1 w') := Lib.hid fun w1 g h1 hg hr => by
    have h := join_t [a, (joinT [b, c])] (gt_two ha (gt_j hb hc)) 2 g rfl (by decide) w1 (hE.below h1) hr hg
    rw [show madeT (kAll [a, joinT [b, c]] noK) (cAll plusC [a, joinT [b, c]] (0, 0)) = joinT [joinT [a, b], c] from (join_assoc ha hb hc).symm] at h
    exact h
  have Eaa : Hid (∀ w1 g, Below w.heap.size w w1 → g < w1.heap.size → TRow w1 g [a, a] → Calls Tryd.prog 19 #[.slice (some ⟨g, 0, none⟩) 2 2] w1 fun e w' => e = .returned (.agg #[.int .i64 (a.k.i : Nat), .string (ba' a.k.n), .int .i64 (a.o : Nat)]) ∧ Below w1.heap.size w1 w') := Lib.hid fun w1 g h1 hg hr => by
    have h := either_t [a, a] (gt_two ha ha) 2 g rfl (by decide) w1 (hE.below h1) hr hg
    rw [show madeT (kAll [a, a] noK) (cAll orC [a, a] (2, 0)) = a from (either_self ha).trans hpl] at h
    exact h
  have Hti : Hid (∀ w1, Below w.heap.size w w1 → Calls Tryd.prog 24 #[.agg #[.int .i64 3, .string ⟨#[]⟩, .int .i64 0], .agg #[.int .i64 (a.k.i : Nat), .string (ba' a.k.n), .int .i64 (a.o : Nat)]] w1 fun e w' => e = .returned (.agg #[.int .i64 (a.k.i : Nat), .string (ba' a.k.n), .int .i64 (a.o : Nat)]) ∧ Below w1.heap.size w1 w') := Lib.hid fun w1 h1 => by
    have h := times_t ⟨⟨3, []⟩, 0⟩ a (gt_lit 3 0 (by decide) (by decide)) ha w1
    rw [times_one ha _ (by decide) rfl, hpl] at h
    exact h
  have hss := sub_self_plain ha
  rw [hpl] at hss
  have Hs1 : Hid (∀ w1, Below w.heap.size w w1 → Calls Tryd.prog 22 #[.agg #[.int .i64 (a.k.i : Nat), .string (ba' a.k.n), .int .i64 (a.o : Nat)], .agg #[.int .i64 (a.k.i : Nat), .string (ba' a.k.n), .int .i64 (a.o : Nat)]] w1 fun e w' => e = .returned (.bool true) ∧ Below w1.heap.size w1 w') := Lib.hid fun w1 h1 => by
    have h := sub_t a a ha ha w1 (hE.below h1)
    rw [hss.1] at h
    exact h
  have Hs2 : Hid (∀ w1, Below w.heap.size w w1 → Calls Tryd.prog 22 #[.agg #[.int .i64 (a.k.i : Nat), .string (ba' a.k.n), .int .i64 (a.o : Nat)], .agg #[.int .i64 (a.k.i : Nat), .string (ba' a.k.n), .int .i64 (a.o : Nat)]] w1 fun e w' => e = .returned (.bool true) ∧ Below w1.heap.size w1 w') := Lib.hid fun w1 h1 => by
    have h := sub_t a a ha ha w1 (hE.below h1)
    rw [hss.2] at h
    exact h
  obtain ⟨⟨⟨zi, zn⟩, zo⟩, h⟩ : ∃ r, eitherT [eitherT [a, b], c] = r := ⟨_, rfl⟩
  rw [h] at Exc Eav
  clear h
  obtain ⟨⟨⟨ti, tn⟩, to⟩, h⟩ : ∃ r, joinT [joinT [a, b], c] = r := ⟨_, rfl⟩
  rw [h] at Jyc Jau
  clear h
  obtain ⟨⟨⟨xi, xn⟩, xo⟩, h⟩ : ∃ r, eitherT [a, b] = r := ⟨_, rfl⟩
  rw [h] at Eab Eba Exc
  clear h
  obtain ⟨⟨⟨yi, yn⟩, yo⟩, h⟩ : ∃ r, joinT [a, b] = r := ⟨_, rfl⟩
  rw [h] at Jab Jba Jyc
  clear h
  obtain ⟨⟨⟨vi, vn⟩, vo⟩, h⟩ : ∃ r, eitherT [b, c] = r := ⟨_, rfl⟩
  rw [h] at Ebc Eav
  clear h
  obtain ⟨⟨⟨ui, un⟩, uo⟩, h⟩ : ∃ r, joinT [b, c] = r := ⟨_, rfl⟩
  rw [h] at Jbc Jau
  clear h
  clear hss ha hb hc hpl hra hrb hrc hE hla hlb hlc
  obtain ⟨⟨ai, an⟩, ao⟩ := a
  obtain ⟨⟨bi, bn⟩, bo⟩ := b
  obtain ⟨⟨ci, cn⟩, co⟩ := c
  simp only at *
  go_enter Tryd.func6, Tryd.ntmps6
  go_wp2_with fail
  refine (HA.out _ (by repeat (with_reducible (first | exact Below.refl _ _ | assumption | apply ba | apply bd | apply bdr | (refine bs ?_ (by first | assumption | (simp; done) | (simp; omega))) | (refine bt ?_ (by assumption)))))).mono ?_
  rintro e w1 ⟨rfl, hb1⟩
  have B1 : Below w.heap.size w w1 := (by repeat (with_reducible (first | exact Below.refl _ _ | assumption | apply ba | apply bd | apply bdr | (refine bs ?_ (by first | assumption | (simp; done) | (simp; omega))) | (refine bt ?_ (by assumption)))))
  have hc1_0 := fun o => (bcell hb1).1 (w.heap.size) o (by first | (simp; done) | assumption | (simp; omega))
  have zz1_0 : w.heap.size < w1.heap.size := zz hb1 (by first | (simp; done) | assumption | (simp; omega))
  have hc1_1 := fun o => (bcell hb1).1 (w.heap.size + 1) o (by first | (simp; done) | assumption | (simp; omega))
  have zz1_1 : w.heap.size + 1 < w1.heap.size := zz hb1 (by first | (simp; done) | assumption | (simp; omega))
  have hc1_2 := fun o => (bcell hb1).1 (w.heap.size + 1 + 1) o (by first | (simp; done) | assumption | (simp; omega))
  have zz1_2 : w.heap.size + 1 + 1 < w1.heap.size := zz hb1 (by first | (simp; done) | assumption | (simp; omega))
  go_wp2_with fail
  refine (HRa.out _).mono ?_
  rintro e w2 ⟨rfl, hb2⟩
  have B2 : Below w.heap.size w w2 := (by repeat (with_reducible (first | exact Below.refl _ _ | assumption | apply ba | apply bd | apply bdr | (refine bs ?_ (by first | assumption | (simp; done) | (simp; omega))) | (refine bt ?_ (by assumption)))))
  have hc2_0 := fun o => (bcell hb2).1 (w.heap.size) o (by first | (simp; done) | assumption | (simp; omega))
  have zz2_0 : w.heap.size < w2.heap.size := zz hb2 (by first | (simp; done) | assumption | (simp; omega))
  have hc2_1 := fun o => (bcell hb2).1 (w.heap.size + 1) o (by first | (simp; done) | assumption | (simp; omega))
  have zz2_1 : w.heap.size + 1 < w2.heap.size := zz hb2 (by first | (simp; done) | assumption | (simp; omega))
  have hc2_2 := fun o => (bcell hb2).1 (w.heap.size + 1 + 1) o (by first | (simp; done) | assumption | (simp; omega))
  have zz2_2 : w.heap.size + 1 + 1 < w2.heap.size := zz hb2 (by first | (simp; done) | assumption | (simp; omega))
  go_wp2_with fail
  refine (HRb.out _).mono ?_
  rintro e w3 ⟨rfl, hb3⟩
  have B3 : Below w.heap.size w w3 := (by repeat (with_reducible (first | exact Below.refl _ _ | assumption | apply ba | apply bd | apply bdr | (refine bs ?_ (by first | assumption | (simp; done) | (simp; omega))) | (refine bt ?_ (by assumption)))))
  have hc3_0 := fun o => (bcell hb3).1 (w.heap.size) o (by first | (simp; done) | assumption | (simp; omega))
  have zz3_0 : w.heap.size < w3.heap.size := zz hb3 (by first | (simp; done) | assumption | (simp; omega))
  have hc3_1 := fun o => (bcell hb3).1 (w.heap.size + 1) o (by first | (simp; done) | assumption | (simp; omega))
  have zz3_1 : w.heap.size + 1 < w3.heap.size := zz hb3 (by first | (simp; done) | assumption | (simp; omega))
  have hc3_2 := fun o => (bcell hb3).1 (w.heap.size + 1 + 1) o (by first | (simp; done) | assumption | (simp; omega))
  have zz3_2 : w.heap.size + 1 + 1 < w3.heap.size := zz hb3 (by first | (simp; done) | assumption | (simp; omega))
  go_wp2_with fail
  refine (HRc.out _).mono ?_
  rintro e w4 ⟨rfl, hb4⟩
  have B4 : Below w.heap.size w w4 := (by repeat (with_reducible (first | exact Below.refl _ _ | assumption | apply ba | apply bd | apply bdr | (refine bs ?_ (by first | assumption | (simp; done) | (simp; omega))) | (refine bt ?_ (by assumption)))))
  have hc4_0 := fun o => (bcell hb4).1 (w.heap.size) o (by first | (simp; done) | assumption | (simp; omega))
  have zz4_0 : w.heap.size < w4.heap.size := zz hb4 (by first | (simp; done) | assumption | (simp; omega))
  have hc4_1 := fun o => (bcell hb4).1 (w.heap.size + 1) o (by first | (simp; done) | assumption | (simp; omega))
  have zz4_1 : w.heap.size + 1 < w4.heap.size := zz hb4 (by first | (simp; done) | assumption | (simp; omega))
  have hc4_2 := fun o => (bcell hb4).1 (w.heap.size + 1 + 1) o (by first | (simp; done) | assumption | (simp; omega))
  have zz4_2 : w.heap.size + 1 + 1 < w4.heap.size := zz hb4 (by first | (simp; done) | assumption | (simp; omega))
  go_wp2_with fail
  refine (Eaa.out _ _ (by repeat (with_reducible (first | exact Below.refl _ _ | assumption | apply ba | apply bd | apply bdr | (refine bs ?_ (by first | assumption | (simp; done) | (simp; omega))) | (refine bt ?_ (by assumption))))) (by simp) (row2 _ _ (by first | assumption | (go_simp; done) | (go_simp; rfl) | (go_keep; done)) (by first | assumption | (go_simp; done) | (go_simp; rfl) | (go_keep; done)) (by first | assumption | (go_simp; done) | (go_simp; rfl) | (go_keep; done)) (by first | assumption | (go_simp; done) | (go_simp; rfl) | (go_keep; done)) (by first | assumption | (go_simp; done) | (go_simp; rfl) | (go_keep; done)) (by first | assumption | (go_simp; done) | (go_simp; rfl) | (go_keep; done)))).mono ?_
  rintro e w5 ⟨rfl, hb5⟩
  have B5 : Below w.heap.size w w5 := (by repeat (with_reducible (first | exact Below.refl _ _ | assumption | apply ba | apply bd | apply bdr | (refine bs ?_ (by first | assumption | (simp; done) | (simp; omega))) | (refine bt ?_ (by assumption)))))
  have hc5_0 := fun o => (bcell hb5).1 (w.heap.size) o (by first | (simp; done) | assumption | (simp; omega))
  have zz5_0 : w.heap.size < w5.heap.size := zz hb5 (by first | (simp; done) | assumption | (simp; omega))
  have hc5_1 := fun o => (bcell hb5).1 (w.heap.size + 1) o (by first | (simp; done) | assumption | (simp; omega))
  have zz5_1 : w.heap.size + 1 < w5.heap.size := zz hb5 (by first | (simp; done) | assumption | (simp; omega))
  have hc5_2 := fun o => (bcell hb5).1 (w.heap.size + 1 + 1) o (by first | (simp; done) | assumption | (simp; omega))
  have zz5_2 : w.heap.size + 1 + 1 < w5.heap.size := zz hb5 (by first | (simp; done) | assumption | (simp; omega))
  have hc5_3 := fun o => (bcell hb5).1 (w4.heap.size) o (by first | (simp; done) | assumption | (simp; omega))
  have zz5_3 : w4.heap.size < w5.heap.size := zz hb5 (by first | (simp; done) | assumption | (simp; omega))
  go_wp2
  refine Ev_region w.heap.size (w.heap.size + 1) (w.heap.size + 1 + 1) w4.heap.size w5.heap.size bi bo bn ci co cn xi xo xn yi yo yn zi zo zn vi vo vn ui uo un ti to tn ai ao an w rfl rfl rfl rfl rfl rfl (by repeat (with_reducible (first | exact Below.refl _ _ | assumption | apply ba | apply bd | apply bdr | (refine bs ?_ (by first | assumption | (simp; done) | (simp; omega))) | (refine bt ?_ (by assumption))))) (by first | assumption | (go_simp; done) | (go_simp; rfl) | (go_keep; done)) (by first | assumption | (go_simp; done) | (go_simp; rfl) | (go_keep; done)) (by first | assumption | (go_simp; done) | (go_simp; rfl) | (go_keep; done)) (by first | assumption | (go_simp; done) | (go_simp; rfl) | (go_keep; done)) (by first | assumption | (go_simp; done) | (go_simp; rfl) | (go_keep; done)) (by first | assumption | (go_simp; done) | (go_simp; rfl) | (go_keep; done)) (by first | assumption | (go_simp; done) | (go_simp; rfl) | (go_keep; done)) (by first | assumption | (go_simp; done) | (go_simp; rfl) | (go_keep; done)) (by first | assumption | (go_simp; done) | (go_simp; rfl) | (go_keep; done)) (by first | assumption | (go_simp; done) | (go_simp; rfl) | (go_keep; done)) (by first | assumption | (go_simp; done) | (go_simp; rfl) | (go_keep; done)) (by first | assumption | (go_simp; done) | (go_simp; rfl) | (go_keep; done)) (by first | assumption | (go_simp; done) | (go_simp; rfl) | (go_keep; done)) (by first | assumption | (go_simp; done) | (go_simp; rfl) | (go_keep; done)) (by first | assumption | (go_simp; done) | (go_simp; rfl) | (go_keep; done)) Eab Eba Jab Jba Exc Ebc Eav Jyc Jbc Jau Hti Hs1 Hs2 ?_
  intro A w6 hd hs h6 hb
  go_wp2
  exact bodyPost_ret (v := .bool true) (by simp [results, Tryd.results6, go_sem, tmp' h6]) hd ⟨rfl, hb⟩
theorem even_right_b (ao : Nat) (hao : ao ≤ 3) (h3 : ao ≠ 3) (b c : TT) (hb : GT b) (hc : GT c) (hlb : b.k.n.length ≤ 1099511627776) (hlc : c.k.n.length ≤ 1099511627776) (hra : rightB (0 : Nat) [] (ao : Nat) = true) (hrb : rightB (b.k.i : Nat) b.k.n (b.o : Nat) = true) (hrc : rightB (c.k.i : Nat) c.k.n (c.o : Nat) = true) (w : World) (hE : TE w) :
    Calls Tryd.prog 6 #[.agg #[.int .i64 0, .string ⟨#[]⟩, .int .i64 (ao : Nat)], .agg #[.int .i64 (b.k.i : Nat), .string (ba' b.k.n), .int .i64 (b.o : Nat)], .agg #[.int .i64 (c.k.i : Nat), .string (ba' c.k.n), .int .i64 (c.o : Nat)]] w fun e w' => e = .returned (.bool true) ∧ Below w.heap.size w w' := by
  obtain ⟨a, hae⟩ : ∃ a : TT, a = ⟨⟨0, []⟩, ao⟩ := ⟨_, rfl⟩
  have ha : GT a := by rw [hae]; exact gt_lit 0 ao (by decide) hao
  have hps : plainT a = emptyT := by rw [hae]; rfl
  have HA : Hid (∀ w1, Below w.heap.size w w1 → Calls Tryd.prog 8 #[] w1 fun e w' => e = .returned (.bool true) ∧ Below w1.heap.size w1 w') := Lib.hid fun w1 h1 => awake_any w1 (hE.below h1)
  have HRa : Hid (∀ w1 : World, Calls Tryd.prog 10 #[.agg #[.int .i64 0, .string ⟨#[]⟩, .int .i64 (ao : Nat)]] w1 fun e w' => e = .returned (.bool true) ∧ Below w1.heap.size w1 w') := Lib.hid fun w1 => by
    have h := right_ref (0 : Nat) (ao : Nat) [] (by decide) w1
    rw [hra] at h
    exact h
  have HRb : Hid (∀ w1 : World, Calls Tryd.prog 10 #[.agg #[.int .i64 (b.k.i : Nat), .string (ba' b.k.n), .int .i64 (b.o : Nat)]] w1 fun e w' => e = .returned (.bool true) ∧ Below w1.heap.size w1 w') := Lib.hid fun w1 => by
    have h := right_ref (b.k.i : Nat) (b.o : Nat) b.k.n hlb w1
    rw [hrb] at h
    exact h
  have HRc : Hid (∀ w1 : World, Calls Tryd.prog 10 #[.agg #[.int .i64 (c.k.i : Nat), .string (ba' c.k.n), .int .i64 (c.o : Nat)]] w1 fun e w' => e = .returned (.bool true) ∧ Below w1.heap.size w1 w') := Lib.hid fun w1 => by
    have h := right_ref (c.k.i : Nat) (c.o : Nat) c.k.n hlc w1
    rw [hrc] at h
    exact h
  have Eab : Hid (∀ w1 g, Below w.heap.size w w1 → g < w1.heap.size → TRow w1 g [a, b] → Calls Tryd.prog 19 #[.slice (some ⟨g, 0, none⟩) 2 2] w1 fun e w' => e = .returned (.agg #[.int .i64 ((eitherT [a, b]).k.i : Nat), .string (ba' (eitherT [a, b]).k.n), .int .i64 ((eitherT [a, b]).o : Nat)]) ∧ Below w1.heap.size w1 w') := Lib.hid fun w1 g h1 hg hr => by
    have h := either_t [a, b] (gt_two ha hb) 2 g rfl (by decide) w1 (hE.below h1) hr hg
    
    exact h
  have Eba : Hid (∀ w1 g, Below w.heap.size w w1 → g < w1.heap.size → TRow w1 g [b, a] → Calls Tryd.prog 19 #[.slice (some ⟨g, 0, none⟩) 2 2] w1 fun e w' => e = .returned (.agg #[.int .i64 ((eitherT [a, b]).k.i : Nat), .string (ba' (eitherT [a, b]).k.n), .int .i64 ((eitherT [a, b]).o : Nat)]) ∧ Below w1.heap.size w1 w') := Lib.hid fun w1 g h1 hg hr => by
    have h := either_t [b, a] (gt_two hb ha) 2 g rfl (by decide) w1 (hE.below h1) hr hg
    rw [show madeT (kAll [b, a] noK) (cAll orC [b, a] (2, 0)) = eitherT [a, b] from (either_comm ha hb).symm] at h
    exact h
  have Jab : Hid (∀ w1 g, Below w.heap.size w w1 → g < w1.heap.size → TRow w1 g [a, b] → Calls Tryd.prog 20 #[.slice (some ⟨g, 0, none⟩) 2 2] w1 fun e w' => e = .returned (.agg #[.int .i64 ((joinT [a, b]).k.i : Nat), .string (ba' (joinT [a, b]).k.n), .int .i64 ((joinT [a, b]).o : Nat)]) ∧ Below w1.heap.size w1 w') := Lib.hid fun w1 g h1 hg hr => by
    have h := join_t [a, b] (gt_two ha hb) 2 g rfl (by decide) w1 (hE.below h1) hr hg
    
    exact h
  have Jba : Hid (∀ w1 g, Below w.heap.size w w1 → g < w1.heap.size → TRow w1 g [b, a] → Calls Tryd.prog 20 #[.slice (some ⟨g, 0, none⟩) 2 2] w1 fun e w' => e = .returned (.agg #[.int .i64 ((joinT [a, b]).k.i : Nat), .string (ba' (joinT [a, b]).k.n), .int .i64 ((joinT [a, b]).o : Nat)]) ∧ Below w1.heap.size w1 w') := Lib.hid fun w1 g h1 hg hr => by
    have h := join_t [b, a] (gt_two hb ha) 2 g rfl (by decide) w1 (hE.below h1) hr hg
    rw [show madeT (kAll [b, a] noK) (cAll plusC [b, a] (0, 0)) = joinT [a, b] from (join_comm ha hb).symm] at h
    exact h
  have Exc : Hid (∀ w1 g, Below w.heap.size w w1 → g < w1.heap.size → TRow w1 g [(eitherT [a, b]), c] → Calls Tryd.prog 19 #[.slice (some ⟨g, 0, none⟩) 2 2] w1 fun e w' => e = .returned (.agg #[.int .i64 ((eitherT [eitherT [a, b], c]).k.i : Nat), .string (ba' (eitherT [eitherT [a, b], c]).k.n), .int .i64 ((eitherT [eitherT [a, b], c]).o : Nat)]) ∧ Below w1.heap.size w1 w') := Lib.hid fun w1 g h1 hg hr => by
    have h := either_t [(eitherT [a, b]), c] (gt_two (gt_e ha hb) hc) 2 g rfl (by decide) w1 (hE.below h1) hr hg
    
    exact h
  have Ebc : Hid (∀ w1 g, Below w.heap.size w w1 → g < w1.heap.size → TRow w1 g [b, c] → Calls Tryd.prog 19 #[.slice (some ⟨g, 0, none⟩) 2 2] w1 fun e w' => e = .returned (.agg #[.int .i64 ((eitherT [b, c]).k.i : Nat), .string (ba' (eitherT [b, c]).k.n), .int .i64 ((eitherT [b, c]).o : Nat)]) ∧ Below w1.heap.size w1 w') := Lib.hid fun w1 g h1 hg hr => by
    have h := either_t [b, c] (gt_two hb hc) 2 g rfl (by decide) w1 (hE.below h1) hr hg
    
    exact h
  have Eav : Hid (∀ w1 g, Below w.heap.size w w1 → g < w1.heap.size → TRow w1 g [a, (eitherT [b, c])] → Calls Tryd.prog 19 #[.slice (some ⟨g, 0, none⟩) 2 2] w1 fun e w' => e = .returned (.agg #[.int .i64 ((eitherT [eitherT [a, b], c]).k.i : Nat), .string (ba' (eitherT [eitherT [a, b], c]).k.n), .int .i64 ((eitherT [eitherT [a, b], c]).o : Nat)]) ∧ Below w1.heap.size w1 w') := Lib.hid fun w1 g h1 hg hr => by
    have h := either_t [a, (eitherT [b, c])] (gt_two ha (gt_e hb hc)) 2 g rfl (by decide) w1 (hE.below h1) hr hg
    rw [show madeT (kAll [a, eitherT [b, c]] noK) (cAll orC [a, eitherT [b, c]] (2, 0)) = eitherT [eitherT [a, b], c] from (either_assoc ha hb hc).symm] at h
    exact h
  have Jyc : Hid (∀ w1 g, Below w.heap.size w w1 → g < w1.heap.size → TRow w1 g [(joinT [a, b]), c] → Calls Tryd.prog 20 #[.slice (some ⟨g, 0, none⟩) 2 2] w1 fun e w' => e = .returned (.agg #[.int .i64 ((joinT [joinT [a, b], c]).k.i : Nat), .string (ba' (joinT [joinT [a, b], c]).k.n), .int .i64 ((joinT [joinT [a, b], c]).o : Nat)]) ∧ Below w1.heap.size w1 w') := Lib.hid fun w1 g h1 hg hr => by
    have h := join_t [(joinT [a, b]), c] (gt_two (gt_j ha hb) hc) 2 g rfl (by decide) w1 (hE.below h1) hr hg
    
    exact h
  have Jbc : Hid (∀ w1 g, Below w.heap.size w w1 → g < w1.heap.size → TRow w1 g [b, c] → Calls Tryd.prog 20 #[.slice (some ⟨g, 0, none⟩) 2 2] w1 fun e w' => e = .returned (.agg #[.int .i64 ((joinT [b, c]).k.i : Nat), .string (ba' (joinT [b, c]).k.n), .int .i64 ((joinT [b, c]).o : Nat)]) ∧ Below w1.heap.size w1 w') := Lib.hid fun w1 g h1 hg hr => by
    have h := join_t [b, c] (gt_two hb hc) 2 g rfl (by decide) w1 (hE.below h1) hr hg
    
    exact h
  have Jau : Hid (∀ w1 g, Below w.heap.size w w1 → g < w1.heap.size → TRow w1 g [a, (joinT [b, c])] → Calls Tryd.prog 20 #[.slice (some ⟨g, 0, none⟩) 2 2] w1 fun e w' => e = .returned (.agg #[.int .i64 ((joinT [joinT [a, b], c]).k.i : Nat), .string (ba' (joinT [joinT [a, b], c]).k.n), .int .i64 ((joinT [joinT [a, b], c]).o : Nat)]) ∧ Below w1.heap.size w1 w') := Lib.hid fun w1 g h1 hg hr => by
    have h := join_t [a, (joinT [b, c])] (gt_two ha (gt_j hb hc)) 2 g rfl (by decide) w1 (hE.below h1) hr hg
    rw [show madeT (kAll [a, joinT [b, c]] noK) (cAll plusC [a, joinT [b, c]] (0, 0)) = joinT [joinT [a, b], c] from (join_assoc ha hb hc).symm] at h
    exact h
  have Eaa : Hid (∀ w1 g, Below w.heap.size w w1 → g < w1.heap.size → TRow w1 g [a, a] → Calls Tryd.prog 19 #[.slice (some ⟨g, 0, none⟩) 2 2] w1 fun e w' => e = .returned (.agg #[.int .i64 (emptyT.k.i : Nat), .string (ba' emptyT.k.n), .int .i64 (emptyT.o : Nat)]) ∧ Below w1.heap.size w1 w') := Lib.hid fun w1 g h1 hg hr => by
    have h := either_t [a, a] (gt_two ha ha) 2 g rfl (by decide) w1 (hE.below h1) hr hg
    rw [show madeT (kAll [a, a] noK) (cAll orC [a, a] (2, 0)) = emptyT from (either_self ha).trans hps] at h
    exact h
  have Hti : Hid (∀ w1, Below w.heap.size w w1 → Calls Tryd.prog 24 #[.agg #[.int .i64 3, .string ⟨#[]⟩, .int .i64 0], .agg #[.int .i64 (a.k.i : Nat), .string (ba' a.k.n), .int .i64 (a.o : Nat)]] w1 fun e w' => e = .returned (.agg #[.int .i64 (emptyT.k.i : Nat), .string (ba' emptyT.k.n), .int .i64 (emptyT.o : Nat)]) ∧ Below w1.heap.size w1 w') := Lib.hid fun w1 h1 => by
    have h := times_t ⟨⟨3, []⟩, 0⟩ a (gt_lit 3 0 (by decide) (by decide)) ha w1
    rw [times_one ha _ (by decide) rfl, hps] at h
    exact h
  have hss := sub_self_plain ha
  rw [hps] at hss
  have Hs1 : Hid (∀ w1, Below w.heap.size w w1 → Calls Tryd.prog 22 #[.agg #[.int .i64 (a.k.i : Nat), .string (ba' a.k.n), .int .i64 (a.o : Nat)], .agg #[.int .i64 (emptyT.k.i : Nat), .string (ba' emptyT.k.n), .int .i64 (emptyT.o : Nat)]] w1 fun e w' => e = .returned (.bool true) ∧ Below w1.heap.size w1 w') := Lib.hid fun w1 h1 => by
    have h := sub_t a emptyT ha (gt_lit 0 3 (by decide) (by decide)) w1 (hE.below h1)
    rw [hss.1] at h
    exact h
  have Hs2 : Hid (∀ w1, Below w.heap.size w w1 → Calls Tryd.prog 22 #[.agg #[.int .i64 (emptyT.k.i : Nat), .string (ba' emptyT.k.n), .int .i64 (emptyT.o : Nat)], .agg #[.int .i64 (a.k.i : Nat), .string (ba' a.k.n), .int .i64 (a.o : Nat)]] w1 fun e w' => e = .returned (.bool true) ∧ Below w1.heap.size w1 w') := Lib.hid fun w1 h1 => by
    have h := sub_t emptyT a (gt_lit 0 3 (by decide) (by decide)) ha w1 (hE.below h1)
    rw [hss.2] at h
    exact h
  obtain ⟨⟨⟨zi, zn⟩, zo⟩, h⟩ : ∃ r, eitherT [eitherT [a, b], c] = r := ⟨_, rfl⟩
  rw [h] at Exc Eav
  clear h
  obtain ⟨⟨⟨ti, tn⟩, to⟩, h⟩ : ∃ r, joinT [joinT [a, b], c] = r := ⟨_, rfl⟩
  rw [h] at Jyc Jau
  clear h
  obtain ⟨⟨⟨xi, xn⟩, xo⟩, h⟩ : ∃ r, eitherT [a, b] = r := ⟨_, rfl⟩
  rw [h] at Eab Eba Exc
  clear h
  obtain ⟨⟨⟨yi, yn⟩, yo⟩, h⟩ : ∃ r, joinT [a, b] = r := ⟨_, rfl⟩
  rw [h] at Jab Jba Jyc
  clear h
  obtain ⟨⟨⟨vi, vn⟩, vo⟩, h⟩ : ∃ r, eitherT [b, c] = r := ⟨_, rfl⟩
  rw [h] at Ebc Eav
  clear h
  obtain ⟨⟨⟨ui, un⟩, uo⟩, h⟩ : ∃ r, joinT [b, c] = r := ⟨_, rfl⟩
  rw [h] at Jbc Jau
  clear h
  clear hss ha hb hc hps hra hrb hrc hE hao hlb hlc
  subst hae
  have g3 : ((3 : Int) = (ao : Int)) = False := by simp; omega
  clear h3
  obtain ⟨⟨bi, bn⟩, bo⟩ := b
  obtain ⟨⟨ci, cn⟩, co⟩ := c
  simp only at *
  go_enter Tryd.func6, Tryd.ntmps6
  go_wp2_with fail
  refine (HA.out _ (by repeat (with_reducible (first | exact Below.refl _ _ | assumption | apply ba | apply bd | apply bdr | (refine bs ?_ (by first | assumption | (simp; done) | (simp; omega))) | (refine bt ?_ (by assumption)))))).mono ?_
  rintro e w1 ⟨rfl, hb1⟩
  have B1 : Below w.heap.size w w1 := (by repeat (with_reducible (first | exact Below.refl _ _ | assumption | apply ba | apply bd | apply bdr | (refine bs ?_ (by first | assumption | (simp; done) | (simp; omega))) | (refine bt ?_ (by assumption)))))
  have hc1_0 := fun o => (bcell hb1).1 (w.heap.size) o (by first | (simp; done) | assumption | (simp; omega))
  have zz1_0 : w.heap.size < w1.heap.size := zz hb1 (by first | (simp; done) | assumption | (simp; omega))
  have hc1_1 := fun o => (bcell hb1).1 (w.heap.size + 1) o (by first | (simp; done) | assumption | (simp; omega))
  have zz1_1 : w.heap.size + 1 < w1.heap.size := zz hb1 (by first | (simp; done) | assumption | (simp; omega))
  have hc1_2 := fun o => (bcell hb1).1 (w.heap.size + 1 + 1) o (by first | (simp; done) | assumption | (simp; omega))
  have zz1_2 : w.heap.size + 1 + 1 < w1.heap.size := zz hb1 (by first | (simp; done) | assumption | (simp; omega))
  go_wp2_with fail
  refine (HRa.out _).mono ?_
  rintro e w2 ⟨rfl, hb2⟩
  have B2 : Below w.heap.size w w2 := (by repeat (with_reducible (first | exact Below.refl _ _ | assumption | apply ba | apply bd | apply bdr | (refine bs ?_ (by first | assumption | (simp; done) | (simp; omega))) | (refine bt ?_ (by assumption)))))
  have hc2_0 := fun o => (bcell hb2).1 (w.heap.size) o (by first | (simp; done) | assumption | (simp; omega))
  have zz2_0 : w.heap.size < w2.heap.size := zz hb2 (by first | (simp; done) | assumption | (simp; omega))
  have hc2_1 := fun o => (bcell hb2).1 (w.heap.size + 1) o (by first | (simp; done) | assumption | (simp; omega))
  have zz2_1 : w.heap.size + 1 < w2.heap.size := zz hb2 (by first | (simp; done) | assumption | (simp; omega))
  have hc2_2 := fun o => (bcell hb2).1 (w.heap.size + 1 + 1) o (by first | (simp; done) | assumption | (simp; omega))
  have zz2_2 : w.heap.size + 1 + 1 < w2.heap.size := zz hb2 (by first | (simp; done) | assumption | (simp; omega))
  go_wp2_with fail
  refine (HRb.out _).mono ?_
  rintro e w3 ⟨rfl, hb3⟩
  have B3 : Below w.heap.size w w3 := (by repeat (with_reducible (first | exact Below.refl _ _ | assumption | apply ba | apply bd | apply bdr | (refine bs ?_ (by first | assumption | (simp; done) | (simp; omega))) | (refine bt ?_ (by assumption)))))
  have hc3_0 := fun o => (bcell hb3).1 (w.heap.size) o (by first | (simp; done) | assumption | (simp; omega))
  have zz3_0 : w.heap.size < w3.heap.size := zz hb3 (by first | (simp; done) | assumption | (simp; omega))
  have hc3_1 := fun o => (bcell hb3).1 (w.heap.size + 1) o (by first | (simp; done) | assumption | (simp; omega))
  have zz3_1 : w.heap.size + 1 < w3.heap.size := zz hb3 (by first | (simp; done) | assumption | (simp; omega))
  have hc3_2 := fun o => (bcell hb3).1 (w.heap.size + 1 + 1) o (by first | (simp; done) | assumption | (simp; omega))
  have zz3_2 : w.heap.size + 1 + 1 < w3.heap.size := zz hb3 (by first | (simp; done) | assumption | (simp; omega))
  go_wp2_with fail
  refine (HRc.out _).mono ?_
  rintro e w4 ⟨rfl, hb4⟩
  have B4 : Below w.heap.size w w4 := (by repeat (with_reducible (first | exact Below.refl _ _ | assumption | apply ba | apply bd | apply bdr | (refine bs ?_ (by first | assumption | (simp; done) | (simp; omega))) | (refine bt ?_ (by assumption)))))
  have hc4_0 := fun o => (bcell hb4).1 (w.heap.size) o (by first | (simp; done) | assumption | (simp; omega))
  have zz4_0 : w.heap.size < w4.heap.size := zz hb4 (by first | (simp; done) | assumption | (simp; omega))
  have hc4_1 := fun o => (bcell hb4).1 (w.heap.size + 1) o (by first | (simp; done) | assumption | (simp; omega))
  have zz4_1 : w.heap.size + 1 < w4.heap.size := zz hb4 (by first | (simp; done) | assumption | (simp; omega))
  have hc4_2 := fun o => (bcell hb4).1 (w.heap.size + 1 + 1) o (by first | (simp; done) | assumption | (simp; omega))
  have zz4_2 : w.heap.size + 1 + 1 < w4.heap.size := zz hb4 (by first | (simp; done) | assumption | (simp; omega))
  go_wp2_with fail
  refine (Eaa.out _ _ (by repeat (with_reducible (first | exact Below.refl _ _ | assumption | apply ba | apply bd | apply bdr | (refine bs ?_ (by first | assumption | (simp; done) | (simp; omega))) | (refine bt ?_ (by assumption))))) (by simp) (row2 _ _ (by first | assumption | (go_simp; done) | (go_simp; rfl) | (go_keep; done)) (by first | assumption | (go_simp; done) | (go_simp; rfl) | (go_keep; done)) (by first | assumption | (go_simp; done) | (go_simp; rfl) | (go_keep; done)) (by first | assumption | (go_simp; done) | (go_simp; rfl) | (go_keep; done)) (by first | assumption | (go_simp; done) | (go_simp; rfl) | (go_keep; done)) (by first | assumption | (go_simp; done) | (go_simp; rfl) | (go_keep; done)))).mono ?_
  rintro e w5 ⟨rfl, hb5⟩
  have B5 : Below w.heap.size w w5 := (by repeat (with_reducible (first | exact Below.refl _ _ | assumption | apply ba | apply bd | apply bdr | (refine bs ?_ (by first | assumption | (simp; done) | (simp; omega))) | (refine bt ?_ (by assumption)))))
  have hc5_0 := fun o => (bcell hb5).1 (w.heap.size) o (by first | (simp; done) | assumption | (simp; omega))
  have zz5_0 : w.heap.size < w5.heap.size := zz hb5 (by first | (simp; done) | assumption | (simp; omega))
  have hc5_1 := fun o => (bcell hb5).1 (w.heap.size + 1) o (by first | (simp; done) | assumption | (simp; omega))
  have zz5_1 : w.heap.size + 1 < w5.heap.size := zz hb5 (by first | (simp; done) | assumption | (simp; omega))
  have hc5_2 := fun o => (bcell hb5).1 (w.heap.size + 1 + 1) o (by first | (simp; done) | assumption | (simp; omega))
  have zz5_2 : w.heap.size + 1 + 1 < w5.heap.size := zz hb5 (by first | (simp; done) | assumption | (simp; omega))
  have hc5_3 := fun o => (bcell hb5).1 (w4.heap.size) o (by first | (simp; done) | assumption | (simp; omega))
  have zz5_3 : w4.heap.size < w5.heap.size := zz hb5 (by first | (simp; done) | assumption | (simp; omega))
  go_wp2
  refine Ew_region w.heap.size (w.heap.size + 1) (w.heap.size + 1 + 1) w4.heap.size w5.heap.size bi bo bn ci co cn xi xo xn yi yo yn zi zo zn vi vo vn ui uo un ti to tn ao w rfl rfl rfl rfl rfl rfl (by repeat (with_reducible (first | exact Below.refl _ _ | assumption | apply ba | apply bd | apply bdr | (refine bs ?_ (by first | assumption | (simp; done) | (simp; omega))) | (refine bt ?_ (by assumption))))) (by first | assumption | (go_simp; done) | (go_simp; rfl) | (go_keep; done)) (by first | assumption | (go_simp; done) | (go_simp; rfl) | (go_keep; done)) (by first | assumption | (go_simp; done) | (go_simp; rfl) | (go_keep; done)) (by first | assumption | (go_simp; done) | (go_simp; rfl) | (go_keep; done)) (by first | assumption | (go_simp; done) | (go_simp; rfl) | (go_keep; done)) (by first | assumption | (go_simp; done) | (go_simp; rfl) | (go_keep; done)) (by first | assumption | (go_simp; done) | (go_simp; rfl) | (go_keep; done)) (by first | assumption | (go_simp; done) | (go_simp; rfl) | (go_keep; done)) (by first | assumption | (go_simp; done) | (go_simp; rfl) | (go_keep; done)) (by first | assumption | (go_simp; done) | (go_simp; rfl) | (go_keep; done)) (by first | assumption | (go_simp; done) | (go_simp; rfl) | (go_keep; done)) (by first | assumption | (go_simp; done) | (go_simp; rfl) | (go_keep; done)) (by first | assumption | (go_simp; done) | (go_simp; rfl) | (go_keep; done)) (by first | assumption | (go_simp; done) | (go_simp; rfl) | (go_keep; done)) (by first | assumption | (go_simp; done) | (go_simp; rfl) | (go_keep; done)) Eab Eba Jab Jba Exc Ebc Eav Jyc Jbc Jau Hti Hs1 Hs2 g3 ?_
  intro A w6 hd hs h6 hb
  go_wp2
  exact bodyPost_ret (v := .bool true) (by simp [results, Tryd.results6, go_sem, tmp' h6]) hd ⟨rfl, hb⟩
end Go.Proofs.YtjpopmgnhgancaaDoor
namespace Go.Proofs.YtjpopmgnhgancaaDoor
open Go.RowKit Go.Lib
set_option maxRecDepth 100000
/-- TypesEven, whatever comes in. -/
theorem even_law (ai ao bi bo ci co : Int) (an bn cn : List UInt8) (ha : an.length ≤ 1099511627776) (hb : bn.length ≤ 1099511627776) (hc : cn.length ≤ 1099511627776) (w : World) (hE : TE w) :
    Calls Tryd.prog 6 #[.agg #[.int .i64 ai, .string (ba' an), .int .i64 ao], .agg #[.int .i64 bi, .string (ba' bn), .int .i64 bo], .agg #[.int .i64 ci, .string (ba' cn), .int .i64 co]] w fun e w' => e = .returned (.bool true) ∧ Below w.heap.size w w' := by
  cases h1 : rightB ai an ao with
  | false => exact even_not ai ao bi bo ci co an bn cn ha hb hc w hE (.inl h1)
  | true =>
    cases h2 : rightB bi bn bo with
    | false => exact even_not ai ao bi bo ci co an bn cn ha hb hc w hE (.inr (.inl ⟨h1, h2⟩))
    | true =>
      cases h3 : rightB ci cn co with
      | false => exact even_not ai ao bi bo ci co an bn cn ha hb hc w hE (.inr (.inr ⟨h1, h2, h3⟩))
      | true =>
        obtain ⟨⟨⟨i1, n1⟩, o1⟩, g1, rfl, rfl, rfl⟩ := right_gt h1
        obtain ⟨⟨⟨i2, n2⟩, o2⟩, g2, rfl, rfl, rfl⟩ := right_gt h2
        obtain ⟨⟨⟨i3, n3⟩, o3⟩, g3, rfl, rfl, rfl⟩ := right_gt h3
        by_cases hz : i1 = 0 ∧ o1 ≠ 3
        · obtain ⟨rfl, ho⟩ := hz
          have hn : an = [] := by have := gk_no g1.1 rfl; simp only [TK.mk.injEq] at this; exact this.2
          subst hn
          have H := even_right_b o1 g1.2 ho ⟨⟨i2, bn⟩, o2⟩ ⟨⟨i3, cn⟩, o3⟩ g2 g3 hb hc h1 h2 h3 w hE
          exact H
        · have hp : plainT ⟨⟨i1, an⟩, o1⟩ = ⟨⟨i1, an⟩, o1⟩ := by
            rw [plainT]
            split
            · rename_i h0
              simp only at h0
              have ho : o1 = 3 := by by_cases h : o1 = 3; exact h; exact absurd ⟨h0, h⟩ hz
              have := gk_no g1.1 h0
              simp only at this
              rw [this, ho]; rfl
            · rfl
          have H := even_right_a ⟨⟨i1, an⟩, o1⟩ hp ⟨⟨i2, bn⟩, o2⟩ ⟨⟨i3, cn⟩, o3⟩ g1 g2 g3 ha hb hc h1 h2 h3 w hE
          exact H
end Go.Proofs.YtjpopmgnhgancaaDoor
