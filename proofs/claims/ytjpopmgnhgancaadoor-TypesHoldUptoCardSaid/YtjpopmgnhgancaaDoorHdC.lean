/- The statement TypesHold: plain words, and the ways where it asks nothing. No condition beyond what the theorems state. -/
import Derived.Test.YtjpopmgnhgancaaDoorTypes
import Derived.Test.YtjpopmgnhgancaaDoorHdB
import Derived.Test.YtjpopmgnhgancaaDoorHdA
import Derived.Test.YtjpopmgnhgancaaDoorCalls
import Derived.Test.YtjpopmgnhgancaaDoorRight
namespace Go.Proofs.YtjpopmgnhgancaaDoor
theorem inC_trans {a b c : CTy} (h1 : inC a b = true) (h2 : inC b c = true) : inC a c = true := by
  simp only [inC, Bool.and_eq_true, decide_eq_true_eq] at *
  omega
theorem sub_trans {a b c : TT} (ha : GT a) (hb : GT b) (h1 : subT a b = true) (h2 : subT b c = true) : subT a c = true := by
  rw [subT, Bool.and_eq_true] at *
  exact ⟨inC_trans h1.1 h2.1, (lieB_is ha.1).2 (lie_trans ((lieB_is ha.1).1 h1.2) ((lieB_is hb.1).1 h2.2))⟩
theorem sub_self {a : TT} (ha : GT a) : subT a a = true := by
  rw [subT, in_refl, (lieB_is ha.1).2 (lie_refl _)]; rfl
theorem or_left5 : ∀ (za zb : Bool) (oa ob : Fin 4), inC (cz za oa.1) (cz (za && zb) (occC (orC (orC (2, 0) (cz za oa.1)) (cz zb ob.1)))) = true := by decide
theorem or_right5 : ∀ (za zb : Bool) (oa ob : Fin 4), inC (cz zb ob.1) (cz (za && zb) (occC (orC (orC (2, 0) (cz za oa.1)) (cz zb ob.1)))) = true := by decide
theorem sub_either_left {a b : TT} (ha : GT a) (hb : GT b) : subT a (eitherT [a, b]) = true := by
  rw [subT, either2, c_made, z_with ha hb, k_made (with_gk ha.1 hb.1), (lieB_is ha.1).2 (with_left ha.1 hb.1), Bool.and_true]
  exact or_left5 (zT a) (zT b) (f4 ha.2) (f4 hb.2)
theorem sub_either_right {a b : TT} (ha : GT a) (hb : GT b) : subT b (eitherT [a, b]) = true := by
  rw [subT, either2, c_made, z_with ha hb, k_made (with_gk ha.1 hb.1), (lieB_is hb.1).2 (with_right ha.1 hb.1), Bool.and_true]
  exact or_right5 (zT a) (zT b) (f4 ha.2) (f4 hb.2)
theorem gt_eitherT {a b : TT} (ha : GT a) (hb : GT b) : GT (eitherT [a, b]) := by rw [either2]; exact gt_made (with_gk ha.1 hb.1)
theorem gt_joinT {a b : TT} (ha : GT a) (hb : GT b) : GT (joinT [a, b]) := by rw [join2]; exact gt_made (with_gk ha.1 hb.1)
/-- What a row of kinds has of a type. -/
def fits (ks : List TT) (t : TT) : Bool := inC (min ks.length 2, min ks.length 2) (cT t) && ks.all (fun k => lieB k.k t.k)
theorem fits_sub {ks : List TT} (hk : ∀ k ∈ ks, GT k) {a c : TT} (ha : GT a) (h1 : fits ks a = true) (h2 : subT a c = true) : fits ks c = true := by
  rw [fits, Bool.and_eq_true] at *
  rw [subT, Bool.and_eq_true] at h2
  refine ⟨inC_trans h1.1 h2.1, List.all_eq_true.2 fun k hm => ?_⟩
  have h := List.all_eq_true.1 h1.2 k hm
  exact (lieB_is (hk k hm).1).2 (lie_trans ((lieB_is (hk k hm).1).1 h) ((lieB_is ha.1).1 h2.2))
theorem plus_fit5 : ∀ (za zb : Bool) (oa ob : Fin 4) (p q : Fin 3), inC (p.1, p.1) (cz za oa.1) = true → inC (q.1, q.1) (cz zb ob.1) = true → inC (min (p.1 + q.1) 2, min (p.1 + q.1) 2) (cz (za && zb) (occC (plusC (plusC (0, 0) (cz za oa.1)) (cz zb ob.1)))) = true := by decide
theorem fits_join {ks ls : List TT} (hk : ∀ k ∈ ks, GT k) (hl : ∀ k ∈ ls, GT k) {a b : TT} (ha : GT a) (hb : GT b) (h1 : fits ks a = true) (h2 : fits ls b = true) : fits (ks ++ ls) (joinT [a, b]) = true := by
  rw [fits, Bool.and_eq_true] at *
  rw [join2, c_made, z_with ha hb, k_made (with_gk ha.1 hb.1), List.length_append, List.all_append, Bool.and_eq_true]
  refine ⟨?_, List.all_eq_true.2 fun k hm => ?_, List.all_eq_true.2 fun k hm => ?_⟩
  · have h := plus_fit5 (zT a) (zT b) (f4 ha.2) (f4 hb.2) ⟨min ks.length 2, by omega⟩ ⟨min ls.length 2, by omega⟩ h1.1 h2.1
    have e : min (min ks.length 2 + min ls.length 2) 2 = min (ks.length + ls.length) 2 := by omega
    simp only [e] at h
    exact h
  · have h := List.all_eq_true.1 h1.2 k hm
    exact (lieB_is (hk k hm).1).2 (lie_trans ((lieB_is (hk k hm).1).1 h) (with_left ha.1 hb.1))
  · have h := List.all_eq_true.1 h2.2 k hm
    exact (lieB_is (hl k hm).1).2 (lie_trans ((lieB_is (hl k hm).1).1 h) (with_right ha.1 hb.1))
end Go.Proofs.YtjpopmgnhgancaaDoor
namespace Go.Proofs.YtjpopmgnhgancaaDoor
open Go.RowKit Go.Lib
set_option maxRecDepth 100000
set_option maxHeartbeats 8000000
/-- A frame of so many places is the list of them. -/
theorem tmps_lit (a : Array Value) (n : Nat) (h : a.size = n) : a = ((List.range n).map fun i => a.getD i undef).toArray := by
  apply Array.ext
  · simp [h]
  · intro i h1 h2
    simp [Array.getElem?_eq_getElem h1]
theorem Ho7_region (ga gb gc sb : Nat) (ai ao : Nat) (an : List UInt8) (bi bo : Nat) (bn : List UInt8) (ci co : Nat) (cn : List UInt8) (pi po : Nat) (pn : List UInt8) (Ai Bi : Option Addr) (ni ka mi kb : Nat) (s1 s2 s3 : Bool) (hs : s1 = true → s2 = true → s3 = true) (w0 : World) {W : World} {Q : Exit → Act → World → Prop} {a0 : Act} (hsz : a0.tmps.size = 160) (f2 : a0.tmps.getD 2 undef = .slice Ai ni ka) (f7 : a0.tmps.getD 7 undef = .pointer (some ⟨ga, 0, none⟩)) (f8 : a0.tmps.getD 8 undef = .pointer (some ⟨gb, 0, none⟩)) (f9 : a0.tmps.getD 9 undef = .pointer (some ⟨gc, 0, none⟩)) (f10 : a0.tmps.getD 10 undef = .slice Bi mi kb) (f11 : a0.tmps.getD 11 undef = .pointer (some ⟨sb, 0, none⟩)) (hb0 : Below w0.heap.size w0 W) (C0 : W.cell? ⟨ga, 0, none⟩ = some (.int .i64 (ai : Nat))) (C1 : W.cell? ⟨ga, 1, none⟩ = some (.string (ba' an))) (C2 : W.cell? ⟨ga, 2, none⟩ = some (.int .i64 (ao : Nat))) (C3 : W.cell? ⟨gb, 0, none⟩ = some (.int .i64 (bi : Nat))) (C4 : W.cell? ⟨gb, 1, none⟩ = some (.string (ba' bn))) (C5 : W.cell? ⟨gb, 2, none⟩ = some (.int .i64 (bo : Nat))) (C6 : W.cell? ⟨gc, 0, none⟩ = some (.int .i64 (ci : Nat))) (C7 : W.cell? ⟨gc, 1, none⟩ = some (.string (ba' cn))) (C8 : W.cell? ⟨gc, 2, none⟩ = some (.int .i64 (co : Nat))) (S1 : Hid (∀ w1, Below w0.heap.size w0 w1 → Calls Tryd.prog 22 #[.agg #[.int .i64 (ai : Nat), .string (ba' an), .int .i64 (ao : Nat)], .agg #[.int .i64 (bi : Nat), .string (ba' bn), .int .i64 (bo : Nat)]] w1 fun e w' => e = .returned (.bool s1) ∧ Below w1.heap.size w1 w')) (S2 : Hid (∀ w1, Below w0.heap.size w0 w1 → Calls Tryd.prog 22 #[.agg #[.int .i64 (bi : Nat), .string (ba' bn), .int .i64 (bo : Nat)], .agg #[.int .i64 (ci : Nat), .string (ba' cn), .int .i64 (co : Nat)]] w1 fun e w' => e = .returned (.bool s2) ∧ Below w1.heap.size w1 w')) (S3 : Hid (∀ w1, Below w0.heap.size w0 w1 → Calls Tryd.prog 22 #[.agg #[.int .i64 (ai : Nat), .string (ba' an), .int .i64 (ao : Nat)], .agg #[.int .i64 (ci : Nat), .string (ba' cn), .int .i64 (co : Nat)]] w1 fun e w' => e = .returned (.bool s3) ∧ Below w1.heap.size w1 w')) (S4 : Hid (∀ w1, Below w0.heap.size w0 w1 → Calls Tryd.prog 22 #[.agg #[.int .i64 (ai : Nat), .string (ba' an), .int .i64 (ao : Nat)], .agg #[.int .i64 (ai : Nat), .string (ba' an), .int .i64 (ao : Nat)]] w1 fun e w' => e = .returned (.bool true) ∧ Below w1.heap.size w1 w')) (S5 : Hid (∀ w1, Below w0.heap.size w0 w1 → Calls Tryd.prog 22 #[.agg #[.int .i64 (ai : Nat), .string (ba' an), .int .i64 (ao : Nat)], .agg #[.int .i64 (pi : Nat), .string (ba' pn), .int .i64 (po : Nat)]] w1 fun e w' => e = .returned (.bool true) ∧ Below w1.heap.size w1 w')) (S6 : Hid (∀ w1, Below w0.heap.size w0 w1 → Calls Tryd.prog 22 #[.agg #[.int .i64 (bi : Nat), .string (ba' bn), .int .i64 (bo : Nat)], .agg #[.int .i64 (pi : Nat), .string (ba' pn), .int .i64 (po : Nat)]] w1 fun e w' => e = .returned (.bool true) ∧ Below w1.heap.size w1 w')) (E1 : Hid (∀ w1 g, Below w0.heap.size w0 w1 → g < w1.heap.size → TRow w1 g [⟨⟨ai, an⟩, ao⟩, ⟨⟨bi, bn⟩, bo⟩] → Calls Tryd.prog 19 #[.slice (some ⟨g, 0, none⟩) 2 2] w1 fun e w' => e = .returned (.agg #[.int .i64 (pi : Nat), .string (ba' pn), .int .i64 (po : Nat)]) ∧ Below w1.heap.size w1 w'))
    (hQ : ∀ (A : Act) (w : World), A.defers = a0.defers → A.tmps.size = 160 → A.tmps.getD 106 undef = .bool false → A.tmps.getD 2 undef = .slice Ai ni ka → A.tmps.getD 7 undef = .pointer (some ⟨ga, 0, none⟩) → A.tmps.getD 8 undef = .pointer (some ⟨gb, 0, none⟩) → A.tmps.getD 9 undef = .pointer (some ⟨gc, 0, none⟩) → A.tmps.getD 10 undef = .slice Bi mi kb → A.tmps.getD 11 undef = .pointer (some ⟨sb, 0, none⟩) → Below w0.heap.size w0 w → Q .normal A w) :
    Code.wp Tryd.prog ((Tryd.f5.body.bind (regionOf 7)).getD .skip) Q a0 W := by
  cases s1 with
  | false => exact HoF_region ga gb gc sb ai ao an bi bo bn ci co cn pi po pn Ai Bi ni ka mi kb w0 hsz f2 f7 f8 f9 f10 f11 hb0 C0 C1 C2 C3 C4 C5 C6 C7 C8 S1 S4 S5 S6 E1 hQ
  | true =>
    cases s2 with
    | false => exact HoT_region ga gb gc sb ai ao an bi bo bn ci co cn pi po pn Ai Bi ni ka mi kb w0 hsz f2 f7 f8 f9 f10 f11 hb0 C0 C1 C2 C3 C4 C5 C6 C7 C8 S1 S2 S4 S5 S6 E1 hQ
    | true =>
      obtain rfl := hs rfl rfl
      exact HoU_region ga gb gc sb ai ao an bi bo bn ci co cn pi po pn Ai Bi ni ka mi kb w0 hsz f2 f7 f8 f9 f10 f11 hb0 C0 C1 C2 C3 C4 C5 C6 C7 C8 S1 S2 S3 S4 S5 S6 E1 hQ
end Go.Proofs.YtjpopmgnhgancaaDoor
namespace Go.Proofs.YtjpopmgnhgancaaDoor
open Go.RowKit Go.Lib
set_option maxRecDepth 100000
set_option maxHeartbeats 16000000
theorem hold_no_a (A0 : Option Addr) (cap0 nt : Nat) (xi xo yi yo zi zo : Int) (xn yn zn : List UInt8) (Bi : Option Addr) (mi di : Nat) (Ai : Option Addr) (ni ci : Nat) (w : World) (hE : TE w) (hlx : xn.length ≤ 1099511627776) (_hly : yn.length ≤ 1099511627776) (_hlz : zn.length ≤ 1099511627776) (hrx : rightB xi xn xo = false) :
    Calls Tryd.prog 5 #[.slice A0 nt cap0, .agg #[.int .i64 xi, .string (ba' xn), .int .i64 xo, .int .i64 yi, .string (ba' yn), .int .i64 yo, .int .i64 zi, .string (ba' zn), .int .i64 zo, .slice Bi mi di], .slice Ai ni ci] w fun e w' => e = .returned (.bool true) ∧ Below w.heap.size w w' := by
  have HA : Hid (∀ w1, Below w.heap.size w w1 → Calls Tryd.prog 8 #[] w1 fun e w' => e = .returned (.bool true) ∧ Below w1.heap.size w1 w') := Lib.hid fun w1 h1 => awake_any w1 (hE.below h1)
  have HRx : Hid (∀ w1 : World, Calls Tryd.prog 10 #[.agg #[.int .i64 xi, .string (ba' xn), .int .i64 xo]] w1 fun e w' => e = .returned (.bool false) ∧ Below w1.heap.size w1 w') := Lib.hid fun w1 => by
    have h := right_ref xi xo xn hlx w1
    rw [hrx] at h
    exact h
  clear hE hlx hrx
  go_enter Tryd.func5, Tryd.ntmps5
  go_wp2
  refine Ho1_region (b := w.heap.size) (xi := xi) (xo := xo) (xn := ba' xn) (yi := yi) (yo := yo) (yn := ba' yn) (zi := zi) (zo := zo) (zn := ba' zn) (Ai := Bi) (ni := mi) (ci := di) (by first | assumption | (go_simp; done) | (go_simp; rfl) | (go_keep; done)) (by first | assumption | (go_simp; done) | (go_simp; rfl) | (go_keep; done)) (by first | assumption | (go_simp; done) | (go_simp; rfl) | (go_keep; done)) (by first | assumption | (go_simp; done) | (go_simp; rfl) | (go_keep; done)) (by first | assumption | (go_simp; done) | (go_simp; rfl) | (go_keep; done)) (by first | assumption | (go_simp; done) | (go_simp; rfl) | (go_keep; done)) (by first | assumption | (go_simp; done) | (go_simp; rfl) | (go_keep; done)) (by first | assumption | (go_simp; done) | (go_simp; rfl) | (go_keep; done)) (by first | assumption | (go_simp; done) | (go_simp; rfl) | (go_keep; done)) (by first | assumption | (go_simp; done) | (go_simp; rfl) | (go_keep; done)) ?_
  intro ga gb gc w1 n1 n2 n3 l1 l2 l3 bA bB bC hB1
  have B1 : Below w.heap.size w w1 := (by repeat (with_reducible (first | exact Below.refl _ _ | assumption | apply ba | apply bd | apply bdr | (refine bs ?_ (by first | assumption | (simp; done) | (simp; omega))) | (refine bt ?_ (by assumption)))))
  have x0_1 : w1.cell? ⟨ga, 0, none⟩ = some (.int .i64 xi) := bA.cell 0
  have x1_1 : w1.cell? ⟨ga, 1, none⟩ = some (.string (ba' xn)) := bA.cell 1
  have x2_1 : w1.cell? ⟨ga, 2, none⟩ = some (.int .i64 xo) := bA.cell 2
  have y0_1 : w1.cell? ⟨gb, 0, none⟩ = some (.int .i64 yi) := bB.cell 0
  have y1_1 : w1.cell? ⟨gb, 1, none⟩ = some (.string (ba' yn)) := bB.cell 1
  have y2_1 : w1.cell? ⟨gb, 2, none⟩ = some (.int .i64 yo) := bB.cell 2
  have z0_1 : w1.cell? ⟨gc, 0, none⟩ = some (.int .i64 zi) := bC.cell 0
  have z1_1 : w1.cell? ⟨gc, 1, none⟩ = some (.string (ba' zn)) := bC.cell 1
  have z2_1 : w1.cell? ⟨gc, 2, none⟩ = some (.int .i64 zo) := bC.cell 2
  have HB1 := Lib.hid B1
  clear bA bB bC hB1 B1 l1 l2 l3
  go_wp2_with fail
  refine (HA.out _ HB1.out).mono ?_
  rintro e w2 ⟨rfl, hb⟩
  have x0_2 := cell_call x0_1 hb
  have x1_2 := cell_call x1_1 hb
  have x2_2 := cell_call x2_1 hb
  have y0_2 := cell_call y0_1 hb
  have y1_2 := cell_call y1_1 hb
  have y2_2 := cell_call y2_1 hb
  have z0_2 := cell_call z0_1 hb
  have z1_2 := cell_call z1_1 hb
  have z2_2 := cell_call z2_1 hb
  have HB2 := Lib.hid (bt HB1.out hb)
  clear hb x0_1 x1_1 x2_1 y0_1 y1_1 y2_1 z0_1 z1_1 z2_1
  go_wp2_with fail
  refine (HRx.out _).mono ?_
  rintro e w3 ⟨rfl, hb⟩
  have x0_3 := cell_call x0_2 hb
  have x1_3 := cell_call x1_2 hb
  have x2_3 := cell_call x2_2 hb
  have y0_3 := cell_call y0_2 hb
  have y1_3 := cell_call y1_2 hb
  have y2_3 := cell_call y2_2 hb
  have z0_3 := cell_call z0_2 hb
  have z1_3 := cell_call z1_2 hb
  have z2_3 := cell_call z2_2 hb
  have HB3 := Lib.hid (bt HB2.out hb)
  clear hb x0_2 x1_2 x2_2 y0_2 y1_2 y2_2 z0_2 z1_2 z2_2
  go_wp2_with fail
  refine (HA.out _ HB3.out).mono ?_
  rintro e w4 ⟨rfl, hb⟩
  have HB4 := Lib.hid (bt HB3.out hb)
  clear hb
  go_wp2
  go_ret
  exact ⟨rfl, HB4.out⟩
theorem hold_no_b (A0 : Option Addr) (cap0 nt : Nat) (xi xo yi yo zi zo : Int) (xn yn zn : List UInt8) (Bi : Option Addr) (mi di : Nat) (Ai : Option Addr) (ni ci : Nat) (w : World) (hE : TE w) (hlx : xn.length ≤ 1099511627776) (hly : yn.length ≤ 1099511627776) (_hlz : zn.length ≤ 1099511627776) (hrx : rightB xi xn xo = true) (hry : rightB yi yn yo = false) :
    Calls Tryd.prog 5 #[.slice A0 nt cap0, .agg #[.int .i64 xi, .string (ba' xn), .int .i64 xo, .int .i64 yi, .string (ba' yn), .int .i64 yo, .int .i64 zi, .string (ba' zn), .int .i64 zo, .slice Bi mi di], .slice Ai ni ci] w fun e w' => e = .returned (.bool true) ∧ Below w.heap.size w w' := by
  have HA : Hid (∀ w1, Below w.heap.size w w1 → Calls Tryd.prog 8 #[] w1 fun e w' => e = .returned (.bool true) ∧ Below w1.heap.size w1 w') := Lib.hid fun w1 h1 => awake_any w1 (hE.below h1)
  have HRx : Hid (∀ w1 : World, Calls Tryd.prog 10 #[.agg #[.int .i64 xi, .string (ba' xn), .int .i64 xo]] w1 fun e w' => e = .returned (.bool true) ∧ Below w1.heap.size w1 w') := Lib.hid fun w1 => by
    have h := right_ref xi xo xn hlx w1
    rw [hrx] at h
    exact h
  have HRy : Hid (∀ w1 : World, Calls Tryd.prog 10 #[.agg #[.int .i64 yi, .string (ba' yn), .int .i64 yo]] w1 fun e w' => e = .returned (.bool false) ∧ Below w1.heap.size w1 w') := Lib.hid fun w1 => by
    have h := right_ref yi yo yn hly w1
    rw [hry] at h
    exact h
  clear hE hlx hly hrx hry
  go_enter Tryd.func5, Tryd.ntmps5
  go_wp2
  refine Ho1_region (b := w.heap.size) (xi := xi) (xo := xo) (xn := ba' xn) (yi := yi) (yo := yo) (yn := ba' yn) (zi := zi) (zo := zo) (zn := ba' zn) (Ai := Bi) (ni := mi) (ci := di) (by first | assumption | (go_simp; done) | (go_simp; rfl) | (go_keep; done)) (by first | assumption | (go_simp; done) | (go_simp; rfl) | (go_keep; done)) (by first | assumption | (go_simp; done) | (go_simp; rfl) | (go_keep; done)) (by first | assumption | (go_simp; done) | (go_simp; rfl) | (go_keep; done)) (by first | assumption | (go_simp; done) | (go_simp; rfl) | (go_keep; done)) (by first | assumption | (go_simp; done) | (go_simp; rfl) | (go_keep; done)) (by first | assumption | (go_simp; done) | (go_simp; rfl) | (go_keep; done)) (by first | assumption | (go_simp; done) | (go_simp; rfl) | (go_keep; done)) (by first | assumption | (go_simp; done) | (go_simp; rfl) | (go_keep; done)) (by first | assumption | (go_simp; done) | (go_simp; rfl) | (go_keep; done)) ?_
  intro ga gb gc w1 n1 n2 n3 l1 l2 l3 bA bB bC hB1
  have B1 : Below w.heap.size w w1 := (by repeat (with_reducible (first | exact Below.refl _ _ | assumption | apply ba | apply bd | apply bdr | (refine bs ?_ (by first | assumption | (simp; done) | (simp; omega))) | (refine bt ?_ (by assumption)))))
  have x0_1 : w1.cell? ⟨ga, 0, none⟩ = some (.int .i64 xi) := bA.cell 0
  have x1_1 : w1.cell? ⟨ga, 1, none⟩ = some (.string (ba' xn)) := bA.cell 1
  have x2_1 : w1.cell? ⟨ga, 2, none⟩ = some (.int .i64 xo) := bA.cell 2
  have y0_1 : w1.cell? ⟨gb, 0, none⟩ = some (.int .i64 yi) := bB.cell 0
  have y1_1 : w1.cell? ⟨gb, 1, none⟩ = some (.string (ba' yn)) := bB.cell 1
  have y2_1 : w1.cell? ⟨gb, 2, none⟩ = some (.int .i64 yo) := bB.cell 2
  have z0_1 : w1.cell? ⟨gc, 0, none⟩ = some (.int .i64 zi) := bC.cell 0
  have z1_1 : w1.cell? ⟨gc, 1, none⟩ = some (.string (ba' zn)) := bC.cell 1
  have z2_1 : w1.cell? ⟨gc, 2, none⟩ = some (.int .i64 zo) := bC.cell 2
  have HB1 := Lib.hid B1
  clear bA bB bC hB1 B1 l1 l2 l3
  go_wp2_with fail
  refine (HA.out _ HB1.out).mono ?_
  rintro e w2 ⟨rfl, hb⟩
  have x0_2 := cell_call x0_1 hb
  have x1_2 := cell_call x1_1 hb
  have x2_2 := cell_call x2_1 hb
  have y0_2 := cell_call y0_1 hb
  have y1_2 := cell_call y1_1 hb
  have y2_2 := cell_call y2_1 hb
  have z0_2 := cell_call z0_1 hb
  have z1_2 := cell_call z1_1 hb
  have z2_2 := cell_call z2_1 hb
  have HB2 := Lib.hid (bt HB1.out hb)
  clear hb x0_1 x1_1 x2_1 y0_1 y1_1 y2_1 z0_1 z1_1 z2_1
  go_wp2_with fail
  refine (HRx.out _).mono ?_
  rintro e w3 ⟨rfl, hb⟩
  have x0_3 := cell_call x0_2 hb
  have x1_3 := cell_call x1_2 hb
  have x2_3 := cell_call x2_2 hb
  have y0_3 := cell_call y0_2 hb
  have y1_3 := cell_call y1_2 hb
  have y2_3 := cell_call y2_2 hb
  have z0_3 := cell_call z0_2 hb
  have z1_3 := cell_call z1_2 hb
  have z2_3 := cell_call z2_2 hb
  have HB3 := Lib.hid (bt HB2.out hb)
  clear hb x0_2 x1_2 x2_2 y0_2 y1_2 y2_2 z0_2 z1_2 z2_2
  go_wp2_with fail
  refine (HRy.out _).mono ?_
  rintro e w4 ⟨rfl, hb⟩
  have x0_4 := cell_call x0_3 hb
  have x1_4 := cell_call x1_3 hb
  have x2_4 := cell_call x2_3 hb
  have y0_4 := cell_call y0_3 hb
  have y1_4 := cell_call y1_3 hb
  have y2_4 := cell_call y2_3 hb
  have z0_4 := cell_call z0_3 hb
  have z1_4 := cell_call z1_3 hb
  have z2_4 := cell_call z2_3 hb
  have HB4 := Lib.hid (bt HB3.out hb)
  clear hb x0_3 x1_3 x2_3 y0_3 y1_3 y2_3 z0_3 z1_3 z2_3
  go_wp2_with fail
  refine (HA.out _ HB4.out).mono ?_
  rintro e w5 ⟨rfl, hb⟩
  have HB5 := Lib.hid (bt HB4.out hb)
  clear hb
  go_wp2
  go_ret
  exact ⟨rfl, HB5.out⟩
theorem hold_no_c (A0 : Option Addr) (cap0 nt : Nat) (xi xo yi yo zi zo : Int) (xn yn zn : List UInt8) (Bi : Option Addr) (mi di : Nat) (Ai : Option Addr) (ni ci : Nat) (w : World) (hE : TE w) (hlx : xn.length ≤ 1099511627776) (hly : yn.length ≤ 1099511627776) (hlz : zn.length ≤ 1099511627776) (hrx : rightB xi xn xo = true) (hry : rightB yi yn yo = true) (hrz : rightB zi zn zo = false) :
    Calls Tryd.prog 5 #[.slice A0 nt cap0, .agg #[.int .i64 xi, .string (ba' xn), .int .i64 xo, .int .i64 yi, .string (ba' yn), .int .i64 yo, .int .i64 zi, .string (ba' zn), .int .i64 zo, .slice Bi mi di], .slice Ai ni ci] w fun e w' => e = .returned (.bool true) ∧ Below w.heap.size w w' := by
  have HA : Hid (∀ w1, Below w.heap.size w w1 → Calls Tryd.prog 8 #[] w1 fun e w' => e = .returned (.bool true) ∧ Below w1.heap.size w1 w') := Lib.hid fun w1 h1 => awake_any w1 (hE.below h1)
  have HRx : Hid (∀ w1 : World, Calls Tryd.prog 10 #[.agg #[.int .i64 xi, .string (ba' xn), .int .i64 xo]] w1 fun e w' => e = .returned (.bool true) ∧ Below w1.heap.size w1 w') := Lib.hid fun w1 => by
    have h := right_ref xi xo xn hlx w1
    rw [hrx] at h
    exact h
  have HRy : Hid (∀ w1 : World, Calls Tryd.prog 10 #[.agg #[.int .i64 yi, .string (ba' yn), .int .i64 yo]] w1 fun e w' => e = .returned (.bool true) ∧ Below w1.heap.size w1 w') := Lib.hid fun w1 => by
    have h := right_ref yi yo yn hly w1
    rw [hry] at h
    exact h
  have HRz : Hid (∀ w1 : World, Calls Tryd.prog 10 #[.agg #[.int .i64 zi, .string (ba' zn), .int .i64 zo]] w1 fun e w' => e = .returned (.bool false) ∧ Below w1.heap.size w1 w') := Lib.hid fun w1 => by
    have h := right_ref zi zo zn hlz w1
    rw [hrz] at h
    exact h
  clear hE hlx hly hlz hrx hry hrz
  go_enter Tryd.func5, Tryd.ntmps5
  go_wp2
  refine Ho1_region (b := w.heap.size) (xi := xi) (xo := xo) (xn := ba' xn) (yi := yi) (yo := yo) (yn := ba' yn) (zi := zi) (zo := zo) (zn := ba' zn) (Ai := Bi) (ni := mi) (ci := di) (by first | assumption | (go_simp; done) | (go_simp; rfl) | (go_keep; done)) (by first | assumption | (go_simp; done) | (go_simp; rfl) | (go_keep; done)) (by first | assumption | (go_simp; done) | (go_simp; rfl) | (go_keep; done)) (by first | assumption | (go_simp; done) | (go_simp; rfl) | (go_keep; done)) (by first | assumption | (go_simp; done) | (go_simp; rfl) | (go_keep; done)) (by first | assumption | (go_simp; done) | (go_simp; rfl) | (go_keep; done)) (by first | assumption | (go_simp; done) | (go_simp; rfl) | (go_keep; done)) (by first | assumption | (go_simp; done) | (go_simp; rfl) | (go_keep; done)) (by first | assumption | (go_simp; done) | (go_simp; rfl) | (go_keep; done)) (by first | assumption | (go_simp; done) | (go_simp; rfl) | (go_keep; done)) ?_
  intro ga gb gc w1 n1 n2 n3 l1 l2 l3 bA bB bC hB1
  have B1 : Below w.heap.size w w1 := (by repeat (with_reducible (first | exact Below.refl _ _ | assumption | apply ba | apply bd | apply bdr | (refine bs ?_ (by first | assumption | (simp; done) | (simp; omega))) | (refine bt ?_ (by assumption)))))
  have x0_1 : w1.cell? ⟨ga, 0, none⟩ = some (.int .i64 xi) := bA.cell 0
  have x1_1 : w1.cell? ⟨ga, 1, none⟩ = some (.string (ba' xn)) := bA.cell 1
  have x2_1 : w1.cell? ⟨ga, 2, none⟩ = some (.int .i64 xo) := bA.cell 2
  have y0_1 : w1.cell? ⟨gb, 0, none⟩ = some (.int .i64 yi) := bB.cell 0
  have y1_1 : w1.cell? ⟨gb, 1, none⟩ = some (.string (ba' yn)) := bB.cell 1
  have y2_1 : w1.cell? ⟨gb, 2, none⟩ = some (.int .i64 yo) := bB.cell 2
  have z0_1 : w1.cell? ⟨gc, 0, none⟩ = some (.int .i64 zi) := bC.cell 0
  have z1_1 : w1.cell? ⟨gc, 1, none⟩ = some (.string (ba' zn)) := bC.cell 1
  have z2_1 : w1.cell? ⟨gc, 2, none⟩ = some (.int .i64 zo) := bC.cell 2
  have HB1 := Lib.hid B1
  clear bA bB bC hB1 B1 l1 l2 l3
  go_wp2_with fail
  refine (HA.out _ HB1.out).mono ?_
  rintro e w2 ⟨rfl, hb⟩
  have x0_2 := cell_call x0_1 hb
  have x1_2 := cell_call x1_1 hb
  have x2_2 := cell_call x2_1 hb
  have y0_2 := cell_call y0_1 hb
  have y1_2 := cell_call y1_1 hb
  have y2_2 := cell_call y2_1 hb
  have z0_2 := cell_call z0_1 hb
  have z1_2 := cell_call z1_1 hb
  have z2_2 := cell_call z2_1 hb
  have HB2 := Lib.hid (bt HB1.out hb)
  clear hb x0_1 x1_1 x2_1 y0_1 y1_1 y2_1 z0_1 z1_1 z2_1
  go_wp2_with fail
  refine (HRx.out _).mono ?_
  rintro e w3 ⟨rfl, hb⟩
  have x0_3 := cell_call x0_2 hb
  have x1_3 := cell_call x1_2 hb
  have x2_3 := cell_call x2_2 hb
  have y0_3 := cell_call y0_2 hb
  have y1_3 := cell_call y1_2 hb
  have y2_3 := cell_call y2_2 hb
  have z0_3 := cell_call z0_2 hb
  have z1_3 := cell_call z1_2 hb
  have z2_3 := cell_call z2_2 hb
  have HB3 := Lib.hid (bt HB2.out hb)
  clear hb x0_2 x1_2 x2_2 y0_2 y1_2 y2_2 z0_2 z1_2 z2_2
  go_wp2_with fail
  refine (HRy.out _).mono ?_
  rintro e w4 ⟨rfl, hb⟩
  have x0_4 := cell_call x0_3 hb
  have x1_4 := cell_call x1_3 hb
  have x2_4 := cell_call x2_3 hb
  have y0_4 := cell_call y0_3 hb
  have y1_4 := cell_call y1_3 hb
  have y2_4 := cell_call y2_3 hb
  have z0_4 := cell_call z0_3 hb
  have z1_4 := cell_call z1_3 hb
  have z2_4 := cell_call z2_3 hb
  have HB4 := Lib.hid (bt HB3.out hb)
  clear hb x0_3 x1_3 x2_3 y0_3 y1_3 y2_3 z0_3 z1_3 z2_3
  go_wp2_with fail
  refine (HRz.out _).mono ?_
  rintro e w5 ⟨rfl, hb⟩
  have x0_5 := cell_call x0_4 hb
  have x1_5 := cell_call x1_4 hb
  have x2_5 := cell_call x2_4 hb
  have y0_5 := cell_call y0_4 hb
  have y1_5 := cell_call y1_4 hb
  have y2_5 := cell_call y2_4 hb
  have z0_5 := cell_call z0_4 hb
  have z1_5 := cell_call z1_4 hb
  have z2_5 := cell_call z2_4 hb
  have HB5 := Lib.hid (bt HB4.out hb)
  clear hb x0_4 x1_4 x2_4 y0_4 y1_4 y2_4 z0_4 z1_4 z2_4
  go_wp2_with fail
  refine (HA.out _ HB5.out).mono ?_
  rintro e w6 ⟨rfl, hb⟩
  have HB6 := Lib.hid (bt HB5.out hb)
  clear hb
  go_wp2
  go_ret
  exact ⟨rfl, HB6.out⟩
theorem hold_no_l (A0 : Option Addr) (cap0 nt : Nat) (xi xo yi yo zi zo : Int) (xn yn zn : List UInt8) (Bi : Option Addr) (mi di : Nat) (Ai : Option Addr) (ni ci : Nat) (w : World) (hE : TE w) (hlx : xn.length ≤ 1099511627776) (hly : yn.length ≤ 1099511627776) (hlz : zn.length ≤ 1099511627776) (hrx : rightB xi xn xo = true) (hry : rightB yi yn yo = true) (hrz : rightB zi zn zo = true) (hg : 50 < ni) :
    Calls Tryd.prog 5 #[.slice A0 nt cap0, .agg #[.int .i64 xi, .string (ba' xn), .int .i64 xo, .int .i64 yi, .string (ba' yn), .int .i64 yo, .int .i64 zi, .string (ba' zn), .int .i64 zo, .slice Bi mi di], .slice Ai ni ci] w fun e w' => e = .returned (.bool true) ∧ Below w.heap.size w w' := by
  have q1 : decide ((ni : Int) > 50) = true := by simp; omega
  have q2 : decide ((50 : Int) < (ni : Int)) = true := by simp; omega
  have HA : Hid (∀ w1, Below w.heap.size w w1 → Calls Tryd.prog 8 #[] w1 fun e w' => e = .returned (.bool true) ∧ Below w1.heap.size w1 w') := Lib.hid fun w1 h1 => awake_any w1 (hE.below h1)
  have HRx : Hid (∀ w1 : World, Calls Tryd.prog 10 #[.agg #[.int .i64 xi, .string (ba' xn), .int .i64 xo]] w1 fun e w' => e = .returned (.bool true) ∧ Below w1.heap.size w1 w') := Lib.hid fun w1 => by
    have h := right_ref xi xo xn hlx w1
    rw [hrx] at h
    exact h
  have HRy : Hid (∀ w1 : World, Calls Tryd.prog 10 #[.agg #[.int .i64 yi, .string (ba' yn), .int .i64 yo]] w1 fun e w' => e = .returned (.bool true) ∧ Below w1.heap.size w1 w') := Lib.hid fun w1 => by
    have h := right_ref yi yo yn hly w1
    rw [hry] at h
    exact h
  have HRz : Hid (∀ w1 : World, Calls Tryd.prog 10 #[.agg #[.int .i64 zi, .string (ba' zn), .int .i64 zo]] w1 fun e w' => e = .returned (.bool true) ∧ Below w1.heap.size w1 w') := Lib.hid fun w1 => by
    have h := right_ref zi zo zn hlz w1
    rw [hrz] at h
    exact h
  clear hE hlx hly hlz hrx hry hrz
  go_enter Tryd.func5, Tryd.ntmps5
  go_wp2
  refine Ho1_region (b := w.heap.size) (xi := xi) (xo := xo) (xn := ba' xn) (yi := yi) (yo := yo) (yn := ba' yn) (zi := zi) (zo := zo) (zn := ba' zn) (Ai := Bi) (ni := mi) (ci := di) (by first | assumption | (go_simp; done) | (go_simp; rfl) | (go_keep; done)) (by first | assumption | (go_simp; done) | (go_simp; rfl) | (go_keep; done)) (by first | assumption | (go_simp; done) | (go_simp; rfl) | (go_keep; done)) (by first | assumption | (go_simp; done) | (go_simp; rfl) | (go_keep; done)) (by first | assumption | (go_simp; done) | (go_simp; rfl) | (go_keep; done)) (by first | assumption | (go_simp; done) | (go_simp; rfl) | (go_keep; done)) (by first | assumption | (go_simp; done) | (go_simp; rfl) | (go_keep; done)) (by first | assumption | (go_simp; done) | (go_simp; rfl) | (go_keep; done)) (by first | assumption | (go_simp; done) | (go_simp; rfl) | (go_keep; done)) (by first | assumption | (go_simp; done) | (go_simp; rfl) | (go_keep; done)) ?_
  intro ga gb gc w1 n1 n2 n3 l1 l2 l3 bA bB bC hB1
  have B1 : Below w.heap.size w w1 := (by repeat (with_reducible (first | exact Below.refl _ _ | assumption | apply ba | apply bd | apply bdr | (refine bs ?_ (by first | assumption | (simp; done) | (simp; omega))) | (refine bt ?_ (by assumption)))))
  have x0_1 : w1.cell? ⟨ga, 0, none⟩ = some (.int .i64 xi) := bA.cell 0
  have x1_1 : w1.cell? ⟨ga, 1, none⟩ = some (.string (ba' xn)) := bA.cell 1
  have x2_1 : w1.cell? ⟨ga, 2, none⟩ = some (.int .i64 xo) := bA.cell 2
  have y0_1 : w1.cell? ⟨gb, 0, none⟩ = some (.int .i64 yi) := bB.cell 0
  have y1_1 : w1.cell? ⟨gb, 1, none⟩ = some (.string (ba' yn)) := bB.cell 1
  have y2_1 : w1.cell? ⟨gb, 2, none⟩ = some (.int .i64 yo) := bB.cell 2
  have z0_1 : w1.cell? ⟨gc, 0, none⟩ = some (.int .i64 zi) := bC.cell 0
  have z1_1 : w1.cell? ⟨gc, 1, none⟩ = some (.string (ba' zn)) := bC.cell 1
  have z2_1 : w1.cell? ⟨gc, 2, none⟩ = some (.int .i64 zo) := bC.cell 2
  have HB1 := Lib.hid B1
  clear bA bB bC hB1 B1 l1 l2 l3
  go_wp2_with fail
  refine (HA.out _ HB1.out).mono ?_
  rintro e w2 ⟨rfl, hb⟩
  have x0_2 := cell_call x0_1 hb
  have x1_2 := cell_call x1_1 hb
  have x2_2 := cell_call x2_1 hb
  have y0_2 := cell_call y0_1 hb
  have y1_2 := cell_call y1_1 hb
  have y2_2 := cell_call y2_1 hb
  have z0_2 := cell_call z0_1 hb
  have z1_2 := cell_call z1_1 hb
  have z2_2 := cell_call z2_1 hb
  have HB2 := Lib.hid (bt HB1.out hb)
  clear hb x0_1 x1_1 x2_1 y0_1 y1_1 y2_1 z0_1 z1_1 z2_1
  go_wp2_with fail
  refine (HRx.out _).mono ?_
  rintro e w3 ⟨rfl, hb⟩
  have x0_3 := cell_call x0_2 hb
  have x1_3 := cell_call x1_2 hb
  have x2_3 := cell_call x2_2 hb
  have y0_3 := cell_call y0_2 hb
  have y1_3 := cell_call y1_2 hb
  have y2_3 := cell_call y2_2 hb
  have z0_3 := cell_call z0_2 hb
  have z1_3 := cell_call z1_2 hb
  have z2_3 := cell_call z2_2 hb
  have HB3 := Lib.hid (bt HB2.out hb)
  clear hb x0_2 x1_2 x2_2 y0_2 y1_2 y2_2 z0_2 z1_2 z2_2
  go_wp2_with fail
  refine (HRy.out _).mono ?_
  rintro e w4 ⟨rfl, hb⟩
  have x0_4 := cell_call x0_3 hb
  have x1_4 := cell_call x1_3 hb
  have x2_4 := cell_call x2_3 hb
  have y0_4 := cell_call y0_3 hb
  have y1_4 := cell_call y1_3 hb
  have y2_4 := cell_call y2_3 hb
  have z0_4 := cell_call z0_3 hb
  have z1_4 := cell_call z1_3 hb
  have z2_4 := cell_call z2_3 hb
  have HB4 := Lib.hid (bt HB3.out hb)
  clear hb x0_3 x1_3 x2_3 y0_3 y1_3 y2_3 z0_3 z1_3 z2_3
  go_wp2_with fail
  refine (HRz.out _).mono ?_
  rintro e w5 ⟨rfl, hb⟩
  have x0_5 := cell_call x0_4 hb
  have x1_5 := cell_call x1_4 hb
  have x2_5 := cell_call x2_4 hb
  have y0_5 := cell_call y0_4 hb
  have y1_5 := cell_call y1_4 hb
  have y2_5 := cell_call y2_4 hb
  have z0_5 := cell_call z0_4 hb
  have z1_5 := cell_call z1_4 hb
  have z2_5 := cell_call z2_4 hb
  have HB5 := Lib.hid (bt HB4.out hb)
  clear hb x0_4 x1_4 x2_4 y0_4 y1_4 y2_4 z0_4 z1_4 z2_4
  go_wp2_with fail
  refine (HA.out _ HB5.out).mono ?_
  rintro e w6 ⟨rfl, hb⟩
  have HB6 := Lib.hid (bt HB5.out hb)
  clear hb
  go_wp2
  go_ret
  exact ⟨rfl, HB6.out⟩
theorem hold_no_m (A0 : Option Addr) (cap0 nt : Nat) (xi xo yi yo zi zo : Int) (xn yn zn : List UInt8) (Bi : Option Addr) (mi di : Nat) (Ai : Option Addr) (ni ci : Nat) (w : World) (hE : TE w) (hlx : xn.length ≤ 1099511627776) (hly : yn.length ≤ 1099511627776) (hlz : zn.length ≤ 1099511627776) (hrx : rightB xi xn xo = true) (hry : rightB yi yn yo = true) (hrz : rightB zi zn zo = true) (hg0 : ¬ 50 < ni) (hg : 50 < mi) :
    Calls Tryd.prog 5 #[.slice A0 nt cap0, .agg #[.int .i64 xi, .string (ba' xn), .int .i64 xo, .int .i64 yi, .string (ba' yn), .int .i64 yo, .int .i64 zi, .string (ba' zn), .int .i64 zo, .slice Bi mi di], .slice Ai ni ci] w fun e w' => e = .returned (.bool true) ∧ Below w.heap.size w w' := by
  have q1 : decide ((ni : Int) > 50) = false := by simp; omega
  have q2 : decide ((50 : Int) < (ni : Int)) = false := by simp; omega
  have q3 : decide ((mi : Int) > 50) = true := by simp; omega
  have q4 : decide ((50 : Int) < (mi : Int)) = true := by simp; omega
  have HA : Hid (∀ w1, Below w.heap.size w w1 → Calls Tryd.prog 8 #[] w1 fun e w' => e = .returned (.bool true) ∧ Below w1.heap.size w1 w') := Lib.hid fun w1 h1 => awake_any w1 (hE.below h1)
  have HRx : Hid (∀ w1 : World, Calls Tryd.prog 10 #[.agg #[.int .i64 xi, .string (ba' xn), .int .i64 xo]] w1 fun e w' => e = .returned (.bool true) ∧ Below w1.heap.size w1 w') := Lib.hid fun w1 => by
    have h := right_ref xi xo xn hlx w1
    rw [hrx] at h
    exact h
  have HRy : Hid (∀ w1 : World, Calls Tryd.prog 10 #[.agg #[.int .i64 yi, .string (ba' yn), .int .i64 yo]] w1 fun e w' => e = .returned (.bool true) ∧ Below w1.heap.size w1 w') := Lib.hid fun w1 => by
    have h := right_ref yi yo yn hly w1
    rw [hry] at h
    exact h
  have HRz : Hid (∀ w1 : World, Calls Tryd.prog 10 #[.agg #[.int .i64 zi, .string (ba' zn), .int .i64 zo]] w1 fun e w' => e = .returned (.bool true) ∧ Below w1.heap.size w1 w') := Lib.hid fun w1 => by
    have h := right_ref zi zo zn hlz w1
    rw [hrz] at h
    exact h
  clear hE hlx hly hlz hrx hry hrz
  go_enter Tryd.func5, Tryd.ntmps5
  go_wp2
  refine Ho1_region (b := w.heap.size) (xi := xi) (xo := xo) (xn := ba' xn) (yi := yi) (yo := yo) (yn := ba' yn) (zi := zi) (zo := zo) (zn := ba' zn) (Ai := Bi) (ni := mi) (ci := di) (by first | assumption | (go_simp; done) | (go_simp; rfl) | (go_keep; done)) (by first | assumption | (go_simp; done) | (go_simp; rfl) | (go_keep; done)) (by first | assumption | (go_simp; done) | (go_simp; rfl) | (go_keep; done)) (by first | assumption | (go_simp; done) | (go_simp; rfl) | (go_keep; done)) (by first | assumption | (go_simp; done) | (go_simp; rfl) | (go_keep; done)) (by first | assumption | (go_simp; done) | (go_simp; rfl) | (go_keep; done)) (by first | assumption | (go_simp; done) | (go_simp; rfl) | (go_keep; done)) (by first | assumption | (go_simp; done) | (go_simp; rfl) | (go_keep; done)) (by first | assumption | (go_simp; done) | (go_simp; rfl) | (go_keep; done)) (by first | assumption | (go_simp; done) | (go_simp; rfl) | (go_keep; done)) ?_
  intro ga gb gc w1 n1 n2 n3 l1 l2 l3 bA bB bC hB1
  have B1 : Below w.heap.size w w1 := (by repeat (with_reducible (first | exact Below.refl _ _ | assumption | apply ba | apply bd | apply bdr | (refine bs ?_ (by first | assumption | (simp; done) | (simp; omega))) | (refine bt ?_ (by assumption)))))
  have x0_1 : w1.cell? ⟨ga, 0, none⟩ = some (.int .i64 xi) := bA.cell 0
  have x1_1 : w1.cell? ⟨ga, 1, none⟩ = some (.string (ba' xn)) := bA.cell 1
  have x2_1 : w1.cell? ⟨ga, 2, none⟩ = some (.int .i64 xo) := bA.cell 2
  have y0_1 : w1.cell? ⟨gb, 0, none⟩ = some (.int .i64 yi) := bB.cell 0
  have y1_1 : w1.cell? ⟨gb, 1, none⟩ = some (.string (ba' yn)) := bB.cell 1
  have y2_1 : w1.cell? ⟨gb, 2, none⟩ = some (.int .i64 yo) := bB.cell 2
  have z0_1 : w1.cell? ⟨gc, 0, none⟩ = some (.int .i64 zi) := bC.cell 0
  have z1_1 : w1.cell? ⟨gc, 1, none⟩ = some (.string (ba' zn)) := bC.cell 1
  have z2_1 : w1.cell? ⟨gc, 2, none⟩ = some (.int .i64 zo) := bC.cell 2
  have HB1 := Lib.hid B1
  clear bA bB bC hB1 B1 l1 l2 l3
  go_wp2_with fail
  refine (HA.out _ HB1.out).mono ?_
  rintro e w2 ⟨rfl, hb⟩
  have x0_2 := cell_call x0_1 hb
  have x1_2 := cell_call x1_1 hb
  have x2_2 := cell_call x2_1 hb
  have y0_2 := cell_call y0_1 hb
  have y1_2 := cell_call y1_1 hb
  have y2_2 := cell_call y2_1 hb
  have z0_2 := cell_call z0_1 hb
  have z1_2 := cell_call z1_1 hb
  have z2_2 := cell_call z2_1 hb
  have HB2 := Lib.hid (bt HB1.out hb)
  clear hb x0_1 x1_1 x2_1 y0_1 y1_1 y2_1 z0_1 z1_1 z2_1
  go_wp2_with fail
  refine (HRx.out _).mono ?_
  rintro e w3 ⟨rfl, hb⟩
  have x0_3 := cell_call x0_2 hb
  have x1_3 := cell_call x1_2 hb
  have x2_3 := cell_call x2_2 hb
  have y0_3 := cell_call y0_2 hb
  have y1_3 := cell_call y1_2 hb
  have y2_3 := cell_call y2_2 hb
  have z0_3 := cell_call z0_2 hb
  have z1_3 := cell_call z1_2 hb
  have z2_3 := cell_call z2_2 hb
  have HB3 := Lib.hid (bt HB2.out hb)
  clear hb x0_2 x1_2 x2_2 y0_2 y1_2 y2_2 z0_2 z1_2 z2_2
  go_wp2_with fail
  refine (HRy.out _).mono ?_
  rintro e w4 ⟨rfl, hb⟩
  have x0_4 := cell_call x0_3 hb
  have x1_4 := cell_call x1_3 hb
  have x2_4 := cell_call x2_3 hb
  have y0_4 := cell_call y0_3 hb
  have y1_4 := cell_call y1_3 hb
  have y2_4 := cell_call y2_3 hb
  have z0_4 := cell_call z0_3 hb
  have z1_4 := cell_call z1_3 hb
  have z2_4 := cell_call z2_3 hb
  have HB4 := Lib.hid (bt HB3.out hb)
  clear hb x0_3 x1_3 x2_3 y0_3 y1_3 y2_3 z0_3 z1_3 z2_3
  go_wp2_with fail
  refine (HRz.out _).mono ?_
  rintro e w5 ⟨rfl, hb⟩
  have x0_5 := cell_call x0_4 hb
  have x1_5 := cell_call x1_4 hb
  have x2_5 := cell_call x2_4 hb
  have y0_5 := cell_call y0_4 hb
  have y1_5 := cell_call y1_4 hb
  have y2_5 := cell_call y2_4 hb
  have z0_5 := cell_call z0_4 hb
  have z1_5 := cell_call z1_4 hb
  have z2_5 := cell_call z2_4 hb
  have HB5 := Lib.hid (bt HB4.out hb)
  clear hb x0_4 x1_4 x2_4 y0_4 y1_4 y2_4 z0_4 z1_4 z2_4
  go_wp2_with fail
  refine (HA.out _ HB5.out).mono ?_
  rintro e w6 ⟨rfl, hb⟩
  have HB6 := Lib.hid (bt HB5.out hb)
  clear hb
  go_wp2
  go_ret
  exact ⟨rfl, HB6.out⟩
end Go.Proofs.YtjpopmgnhgancaaDoor
