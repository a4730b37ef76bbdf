/- What matches a type matches what it lies in, in plain words; the reference: Match. No condition beyond what the theorems state. -/
import Derived.Test.YtjpopmgnhgancaaDoorTypes
import Derived.Test.YtjpopmgnhgancaaDoorMdB
import Derived.Test.YtjpopmgnhgancaaDoorRefKinds
namespace Go.Proofs.YtjpopmgnhgancaaDoor
theorem inC_trans {a b c : CTy} (h1 : inC a b = true) (h2 : inC b c = true) : inC a c = true := by
  simp only [inC, Bool.and_eq_true, decide_eq_true_eq] at *
  omega
theorem sub_trans {a b c : TT} (ha : GT a) (hb : GT b) (h1 : subT a b = true) (h2 : subT b c = true) : subT a c = true := by
  rw [subT, Bool.and_eq_true] at *
  exact ⟨inC_trans h1.1 h2.1, (lieB_is ha.1).2 (lie_trans ((lieB_is ha.1).1 h1.2) ((lieB_is hb.1).1 h2.2))⟩
theorem sub_self {a : TT} (ha : GT a) : subT a a = true := by
  rw [subT, in_refl, (lieB_is ha.1).2 (lie_refl _)]; rfl
theorem or_left5 : ∀ (za zb : Bool) (oa ob : Fin 4), inC (cz za oa.1) (cz (za && zb) (occC (orC (orC (2, 0) (cz za oa.1)) (cz zb ob.1)))) = true := by decide
theorem or_right5 : ∀ (za zb : Bool) (oa ob : Fin 4), inC (cz zb ob.1) (cz (za && zb) (occC (orC (orC (2, 0) (cz za oa.1)) (cz zb ob.1)))) = true := by decide
theorem sub_either_left {a b : TT} (ha : GT a) (hb : GT b) : subT a (eitherT [a, b]) = true := by
  rw [subT, either2, c_made, z_with ha hb, k_made (with_gk ha.1 hb.1), (lieB_is ha.1).2 (with_left ha.1 hb.1), Bool.and_true]
  exact or_left5 (zT a) (zT b) (f4 ha.2) (f4 hb.2)
theorem sub_either_right {a b : TT} (ha : GT a) (hb : GT b) : subT b (eitherT [a, b]) = true := by
  rw [subT, either2, c_made, z_with ha hb, k_made (with_gk ha.1 hb.1), (lieB_is hb.1).2 (with_right ha.1 hb.1), Bool.and_true]
  exact or_right5 (zT a) (zT b) (f4 ha.2) (f4 hb.2)
theorem gt_eitherT {a b : TT} (ha : GT a) (hb : GT b) : GT (eitherT [a, b]) := by rw [either2]; exact gt_made (with_gk ha.1 hb.1)
theorem gt_joinT {a b : TT} (ha : GT a) (hb : GT b) : GT (joinT [a, b]) := by rw [join2]; exact gt_made (with_gk ha.1 hb.1)
/-- What a row of kinds has of a type. -/
def fits (ks : List TT) (t : TT) : Bool := inC (min ks.length 2, min ks.length 2) (cT t) && ks.all (fun k => lieB k.k t.k)
theorem fits_sub {ks : List TT} (hk : ∀ k ∈ ks, GT k) {a c : TT} (ha : GT a) (h1 : fits ks a = true) (h2 : subT a c = true) : fits ks c = true := by
  rw [fits, Bool.and_eq_true] at *
  rw [subT, Bool.and_eq_true] at h2
  refine ⟨inC_trans h1.1 h2.1, List.all_eq_true.2 fun k hm => ?_⟩
  have h := List.all_eq_true.1 h1.2 k hm
  exact (lieB_is (hk k hm).1).2 (lie_trans ((lieB_is (hk k hm).1).1 h) ((lieB_is ha.1).1 h2.2))
theorem plus_fit5 : ∀ (za zb : Bool) (oa ob : Fin 4) (p q : Fin 3), inC (p.1, p.1) (cz za oa.1) = true → inC (q.1, q.1) (cz zb ob.1) = true → inC (min (p.1 + q.1) 2, min (p.1 + q.1) 2) (cz (za && zb) (occC (plusC (plusC (0, 0) (cz za oa.1)) (cz zb ob.1)))) = true := by decide
theorem fits_join {ks ls : List TT} (hk : ∀ k ∈ ks, GT k) (hl : ∀ k ∈ ls, GT k) {a b : TT} (ha : GT a) (hb : GT b) (h1 : fits ks a = true) (h2 : fits ls b = true) : fits (ks ++ ls) (joinT [a, b]) = true := by
  rw [fits, Bool.and_eq_true] at *
  rw [join2, c_made, z_with ha hb, k_made (with_gk ha.1 hb.1), List.length_append, List.all_append, Bool.and_eq_true]
  refine ⟨?_, List.all_eq_true.2 fun k hm => ?_, List.all_eq_true.2 fun k hm => ?_⟩
  · have h := plus_fit5 (zT a) (zT b) (f4 ha.2) (f4 hb.2) ⟨min ks.length 2, by omega⟩ ⟨min ls.length 2, by omega⟩ h1.1 h2.1
    have e : min (min ks.length 2 + min ls.length 2) 2 = min (ks.length + ls.length) 2 := by omega
    simp only [e] at h
    exact h
  · have h := List.all_eq_true.1 h1.2 k hm
    exact (lieB_is (hk k hm).1).2 (lie_trans ((lieB_is (hk k hm).1).1 h) (with_left ha.1 hb.1))
  · have h := List.all_eq_true.1 h2.2 k hm
    exact (lieB_is (hl k hm).1).2 (lie_trans ((lieB_is (hl k hm).1).1 h) (with_right ha.1 hb.1))
end Go.Proofs.YtjpopmgnhgancaaDoor
namespace Go.Proofs.YtjpopmgnhgancaaDoor
open Go.RowKit Go.Lib
set_option maxRecDepth 100000
set_option maxHeartbeats 16000000
def RfI (w0 : World) (ad : Addr) (Al : Option Addr) (gt ni ka nl kl j zi zo _ki _ko : Nat) (zn _kn : List UInt8) (_xm _xk _xn _xc : Int) (_xs : ByteArray) (_xb _r : Bool) (c1 c3 c5 c6 c7 c8 c9 c12 c13 c14 c15 c16 c17 c18 c19 c20 c21 c22 c23 c24 c25 c26 c27 c28 c29 c30 c31 c32 c49 : Value) (listed : Array Bool) (A : Act) (w : World) : Prop := ∃ (s10 s33 s34 s35 s36 s37 s38 s39 s40 s41 s42 s43 s44 s45 s46 s47 s48 : Value), A = { tmps := #[.slice Al nl kl, c1, .slice (some ad) ni ka, c3, .pointer (some ⟨gt, 0, none⟩), c5, c6, c7, c8, c9, s10, .int .i64 (j : Nat), c12, c13, c14, c15, c16, c17, c18, c19, c20, c21, c22, c23, c24, c25, c26, c27, c28, c29, c30, c31, c32, s33, s34, s35, s36, s37, s38, s39, s40, s41, s42, s43, s44, s45, s46, s47, s48, c49], defers := [] } ∧
  (listed.getD 0 false = true → s33 = .bool false) ∧
  (listed.getD 1 false = true → s34 = .bool false) ∧
  (listed.getD 2 false = true → s35 = undef) ∧
  (listed.getD 3 false = true → s36 = undef) ∧
  (listed.getD 4 false = true → s37 = undef) ∧
  (listed.getD 5 false = true → s38 = .bool false) ∧
  (listed.getD 6 false = true → s39 = .bool false) ∧
  (listed.getD 7 false = true → s40 = undef) ∧
  (listed.getD 8 false = true → s41 = undef) ∧
  (listed.getD 9 false = true → s42 = undef) ∧
  (listed.getD 10 false = true → s43 = undef) ∧
  (listed.getD 11 false = true → s44 = undef) ∧
  (listed.getD 12 false = true → s45 = undef) ∧
  (listed.getD 13 false = true → s46 = undef) ∧
  (listed.getD 14 false = true → s47 = undef) ∧
  (listed.getD 15 false = true → s48 = .bool false) ∧
  (listed.getD 16 false = true → s10 = .bool false) ∧
  Below w0.heap.size w0 w ∧
  w.cell? ⟨gt, 0, none⟩ = some (.int .i64 (zi : Nat)) ∧
  w.cell? ⟨gt, 1, none⟩ = some (.string (ba' zn)) ∧
  w.cell? ⟨gt, 2, none⟩ = some (.int .i64 (zo : Nat)) ∧
  (listed.getD 16 false = false → s10 = .bool false) ∧
  (listed.getD 16 false = true → listed.getD 0 false = true)
set_option maxRecDepth 100000 in
set_option maxHeartbeats 16000000 in
theorem Rf_region (ad : Addr) (Al : Option Addr) (gt ni ka nl kl j zi zo ki ko : Nat) (zn kn : List UInt8) (xm xk xn xc : Int) (xs : ByteArray) (xb r : Bool) {x10 x33 x34 x35 x36 x37 x38 x39 x40 x41 x42 x43 x44 x45 x46 x47 x48 : Value} {c1 c3 c5 c6 c7 c8 c9 c12 c13 c14 c15 c16 c17 c18 c19 c20 c21 c22 c23 c24 c25 c26 c27 c28 c29 c30 c31 c32 c49 : Value} (w0 : World) {W : World} {Q : Exit → Act → World → Prop} (hb0 : Below w0.heap.size w0 W) (C0 : W.cell? ⟨gt, 0, none⟩ = some (.int .i64 (zi : Nat))) (C1 : W.cell? ⟨gt, 1, none⟩ = some (.string (ba' zn))) (C2 : W.cell? ⟨gt, 2, none⟩ = some (.int .i64 (zo : Nat))) (X10 : x10 = .bool false) (_Y0 : Hid (∀ w1, Below w0.heap.size w0 w1 → w1.cell? (ad.add (j * 6)) = some (.int .i64 xm))) (_Y1 : Hid (∀ w1, Below w0.heap.size w0 w1 → w1.cell? { block := (ad.add (j * 6)).block, off := (ad.add (j * 6)).off + 1 } = some (.int .i64 xk))) (_Y2 : Hid (∀ w1, Below w0.heap.size w0 w1 → w1.cell? { block := (ad.add (j * 6)).block, off := (ad.add (j * 6)).off + 2 } = some (.int .i64 xn))) (_Y3 : Hid (∀ w1, Below w0.heap.size w0 w1 → w1.cell? { block := (ad.add (j * 6)).block, off := (ad.add (j * 6)).off + 3 } = some (.int .i64 xc))) (_Y4 : Hid (∀ w1, Below w0.heap.size w0 w1 → w1.cell? { block := (ad.add (j * 6)).block, off := (ad.add (j * 6)).off + 4 } = some (.string xs))) (_Y5 : Hid (∀ w1, Below w0.heap.size w0 w1 → w1.cell? { block := (ad.add (j * 6)).block, off := (ad.add (j * 6)).off + 5 } = some (.bool xb))) (_hj : j < ni) (_hj' : decide (j < ni) = true) (_H1 : Hid (∀ w1, Below w0.heap.size w0 w1 → Calls Tryd.prog 15 #[.slice Al nl kl, .agg #[.int .i64 xm, .int .i64 xk, .int .i64 xn, .int .i64 xc, .string xs, .bool xb]] w1 fun e w' => e = .returned (.agg #[.int .i64 (ki : Nat), .string (ba' kn), .int .i64 (ko : Nat)]) ∧ Below w1.heap.size w1 w')) (_H2 : Hid (∀ w1, Below w0.heap.size w0 w1 → Calls Tryd.prog 18 #[.agg #[.int .i64 (ki : Nat), .string (ba' kn), .int .i64 (ko : Nat)], .agg #[.int .i64 (zi : Nat), .string (ba' zn), .int .i64 (zo : Nat)]] w1 fun e w' => e = .returned (.bool r) ∧ Below w1.heap.size w1 w'))
    (hQ : ∀ (w : World) , (True) → Below w0.heap.size w0 w → Q .normal { tmps := #[.slice Al nl kl, c1, .slice (some ad) ni ka, c3, .pointer (some ⟨gt, 0, none⟩), c5, c6, c7, c8, c9, .bool false, .int .i64 (j : Nat), c12, c13, c14, c15, c16, c17, c18, c19, c20, c21, c22, c23, c24, c25, c26, c27, c28, c29, c30, c31, c32, .bool false, .bool false, undef, undef, undef, .bool false, .bool false, undef, undef, undef, undef, undef, undef, undef, undef, .bool false, c49], defers := [] } w) :
    Code.wp Tryd.prog ((Tryd.f14.body.bind (regionOf 10)).getD .skip) Q { tmps := #[.slice Al nl kl, c1, .slice (some ad) ni ka, c3, .pointer (some ⟨gt, 0, none⟩), c5, c6, c7, c8, c9, x10, .int .i64 (j : Nat), c12, c13, c14, c15, c16, c17, c18, c19, c20, c21, c22, c23, c24, c25, c26, c27, c28, c29, c30, c31, c32, x33, x34, x35, x36, x37, x38, x39, x40, x41, x42, x43, x44, x45, x46, x47, x48, c49], defers := [] } W := by
  conv => arg 2; whnf
  refine wp_region_inv (by kernel_rfl) (by kernel_rfl) (RfI w0 ad Al gt ni ka nl kl j zi zo ki ko zn kn xm xk xn xc xs xb r c1 c3 c5 c6 c7 c8 c9 c12 c13 c14 c15 c16 c17 c18 c19 c20 c21 c22 c23 c24 c25 c26 c27 c28 c29 c30 c31 c32 c49) ?_ ?_ ?_
  · exact ⟨_, _, _, _, _, _, _, _, _, _, _, _, _, _, _, _, _, rfl, fun h => absurd h l0, fun h => absurd h l0, fun h => absurd h l0, fun h => absurd h l0, fun h => absurd h l0, fun h => absurd h l0, fun h => absurd h l0, fun h => absurd h l0, fun h => absurd h l0, fun h => absurd h l0, fun h => absurd h l0, fun h => absurd h l0, fun h => absurd h l0, fun h => absurd h l0, fun h => absurd h l0, fun h => absurd h l0, fun h => absurd h l0, bdr hb0, C0, C1, C2, fun _ => X10, fun h => absurd h l0⟩
  · intro i o listed A w hi ho hd hn hI
    unfold RfI at hI
    obtain ⟨s10, hI⟩ := hI
    obtain ⟨s33, hI⟩ := hI
    obtain ⟨s34, hI⟩ := hI
    obtain ⟨s35, hI⟩ := hI
    obtain ⟨s36, hI⟩ := hI
    obtain ⟨s37, hI⟩ := hI
    obtain ⟨s38, hI⟩ := hI
    obtain ⟨s39, hI⟩ := hI
    obtain ⟨s40, hI⟩ := hI
    obtain ⟨s41, hI⟩ := hI
    obtain ⟨s42, hI⟩ := hI
    obtain ⟨s43, hI⟩ := hI
    obtain ⟨s44, hI⟩ := hI
    obtain ⟨s45, hI⟩ := hI
    obtain ⟨s46, hI⟩ := hI
    obtain ⟨s47, hI⟩ := hI
    obtain ⟨s48, hI⟩ := hI
    obtain ⟨rfl, hI⟩ := hI
    obtain ⟨F0, hI⟩ := hI
    obtain ⟨F1, hI⟩ := hI
    obtain ⟨F2, hI⟩ := hI
    obtain ⟨F3, hI⟩ := hI
    obtain ⟨F4, hI⟩ := hI
    obtain ⟨F5, hI⟩ := hI
    obtain ⟨F6, hI⟩ := hI
    obtain ⟨F7, hI⟩ := hI
    obtain ⟨F8, hI⟩ := hI
    obtain ⟨F9, hI⟩ := hI
    obtain ⟨F10, hI⟩ := hI
    obtain ⟨F11, hI⟩ := hI
    obtain ⟨F12, hI⟩ := hI
    obtain ⟨F13, hI⟩ := hI
    obtain ⟨F14, hI⟩ := hI
    obtain ⟨F15, hI⟩ := hI
    obtain ⟨F16, hI⟩ := hI
    obtain ⟨F17, hI⟩ := hI
    obtain ⟨F18, hI⟩ := hI
    obtain ⟨F19, hI⟩ := hI
    obtain ⟨F20, hI⟩ := hI
    obtain ⟨F21, hI⟩ := hI
    have F22 := hI; clear hI
    have hi' : i < 17 := hi
    clear hi
    rcases (by omega : i = 0 ∨ i = 1 ∨ i = 2 ∨ i = 3 ∨ i = 4 ∨ i = 5 ∨ i = 6 ∨ i = 7 ∨ i = 8 ∨ i = 9 ∨ i = 10 ∨ i = 11 ∨ i = 12 ∨ i = 13 ∨ i = 14 ∨ i = 15 ∨ i = 16) with rfl | rfl | rfl | rfl | rfl | rfl | rfl | rfl | rfl | rfl | rfl | rfl | rfl | rfl | rfl | rfl | rfl
    · simp only [List.getElem?_toArray, List.getElem?_cons_zero, Option.some.injEq] at ho
      subst ho
      obtain rfl := F21 (ln hn F22)
      refine wpOp_step rfl (fun K hK => ?_)
      go_simp
      refine hK _ _ ?_
      exact ⟨_, _, _, _, _, _, _, _, _, _, _, _, _, _, _, _, _, rfl, fun _ => rfl, lk F1, lk F2, lk F3, lk F4, lk F5, lk F6, lk F7, lk F8, lk F9, lk F10, lk F11, lk F12, lk F13, lk F14, lk F15, lk F16, F17, F18, F19, F20, fun h => F21 (lsf (by decide) h), fun h => la (F22 (ls (by decide) h))⟩
    · simp only [List.getElem?_toArray, List.getElem?_cons_zero, List.getElem?_cons_succ, Option.some.injEq] at ho
      subst ho
      obtain rfl := F0 (hd ⟨0, .data⟩ (by simp) rfl)
      refine wpOp_step rfl (fun K hK => ?_)
      go_simp
      refine hK _ _ ?_
      exact ⟨_, _, _, _, _, _, _, _, _, _, _, _, _, _, _, _, _, rfl, lk F0, fun _ => rfl, lk F2, lk F3, lk F4, lk F5, lk F6, lk F7, lk F8, lk F9, lk F10, lk F11, lk F12, lk F13, lk F14, lk F15, lk F16, F17, F18, F19, F20, fun h => F21 (lsf (by decide) h), fun h => la (F22 (ls (by decide) h))⟩
    · simp only [List.getElem?_toArray, List.getElem?_cons_zero, List.getElem?_cons_succ, Option.some.injEq] at ho
      subst ho
      obtain rfl := F1 (hd ⟨1, .guard⟩ (by simp) rfl)
      refine wpOp_step rfl (fun K hK => ?_)
      go_simp
      refine hK _ _ ?_
      exact ⟨_, _, _, _, _, _, _, _, _, _, _, _, _, _, _, _, _, rfl, lk F0, lk F1, fun _ => rfl, lk F3, lk F4, lk F5, lk F6, lk F7, lk F8, lk F9, lk F10, lk F11, lk F12, lk F13, lk F14, lk F15, lk F16, F17, F18, F19, F20, fun h => F21 (lsf (by decide) h), fun h => la (F22 (ls (by decide) h))⟩
    · simp only [List.getElem?_toArray, List.getElem?_cons_zero, List.getElem?_cons_succ, Option.some.injEq] at ho
      subst ho
      obtain rfl := F1 (hd ⟨1, .guard⟩ (by simp) rfl)
      refine wpOp_step rfl (fun K hK => ?_)
      go_simp
      refine hK _ _ ?_
      exact ⟨_, _, _, _, _, _, _, _, _, _, _, _, _, _, _, _, _, rfl, lk F0, lk F1, lk F2, fun _ => rfl, lk F4, lk F5, lk F6, lk F7, lk F8, lk F9, lk F10, lk F11, lk F12, lk F13, lk F14, lk F15, lk F16, F17, F18, F19, F20, fun h => F21 (lsf (by decide) h), fun h => la (F22 (ls (by decide) h))⟩
    · simp only [List.getElem?_toArray, List.getElem?_cons_zero, List.getElem?_cons_succ, Option.some.injEq] at ho
      subst ho
      obtain rfl := F1 (hd ⟨1, .guard⟩ (by simp) rfl)
      refine wpOp_step rfl (fun K hK => ?_)
      go_simp
      refine hK _ _ ?_
      exact ⟨_, _, _, _, _, _, _, _, _, _, _, _, _, _, _, _, _, rfl, lk F0, lk F1, lk F2, lk F3, fun _ => rfl, lk F5, lk F6, lk F7, lk F8, lk F9, lk F10, lk F11, lk F12, lk F13, lk F14, lk F15, lk F16, F17, F18, F19, F20, fun h => F21 (lsf (by decide) h), fun h => la (F22 (ls (by decide) h))⟩
    · simp only [List.getElem?_toArray, List.getElem?_cons_zero, List.getElem?_cons_succ, Option.some.injEq] at ho
      subst ho
      obtain rfl := F1 (hd ⟨1, .data⟩ (by simp) rfl)
      refine wpOp_step rfl (fun K hK => ?_)
      go_simp
      refine hK _ _ ?_
      exact ⟨_, _, _, _, _, _, _, _, _, _, _, _, _, _, _, _, _, rfl, lk F0, lk F1, lk F2, lk F3, lk F4, fun _ => rfl, lk F6, lk F7, lk F8, lk F9, lk F10, lk F11, lk F12, lk F13, lk F14, lk F15, lk F16, F17, F18, F19, F20, fun h => F21 (lsf (by decide) h), fun h => la (F22 (ls (by decide) h))⟩
    · simp only [List.getElem?_toArray, List.getElem?_cons_zero, List.getElem?_cons_succ, Option.some.injEq] at ho
      subst ho
      obtain rfl := F5 (hd ⟨5, .data⟩ (by simp) rfl)
      refine wpOp_step rfl (fun K hK => ?_)
      go_simp
      refine hK _ _ ?_
      exact ⟨_, _, _, _, _, _, _, _, _, _, _, _, _, _, _, _, _, rfl, lk F0, lk F1, lk F2, lk F3, lk F4, lk F5, fun _ => rfl, lk F7, lk F8, lk F9, lk F10, lk F11, lk F12, lk F13, lk F14, lk F15, lk F16, F17, F18, F19, F20, fun h => F21 (lsf (by decide) h), fun h => la (F22 (ls (by decide) h))⟩
    · simp only [List.getElem?_toArray, List.getElem?_cons_zero, List.getElem?_cons_succ, Option.some.injEq] at ho
      subst ho
      obtain rfl := F6 (hd ⟨6, .guard⟩ (by simp) rfl)
      refine wpOp_step rfl (fun K hK => ?_)
      go_simp
      refine hK _ _ ?_
      exact ⟨_, _, _, _, _, _, _, _, _, _, _, _, _, _, _, _, _, rfl, lk F0, lk F1, lk F2, lk F3, lk F4, lk F5, lk F6, fun _ => rfl, lk F8, lk F9, lk F10, lk F11, lk F12, lk F13, lk F14, lk F15, lk F16, F17, F18, F19, F20, fun h => F21 (lsf (by decide) h), fun h => la (F22 (ls (by decide) h))⟩
    · simp only [List.getElem?_toArray, List.getElem?_cons_zero, List.getElem?_cons_succ, Option.some.injEq] at ho
      subst ho
      obtain rfl := F6 (hd ⟨6, .guard⟩ (by simp) rfl)
      refine wpOp_step rfl (fun K hK => ?_)
      go_simp
      refine hK _ _ ?_
      exact ⟨_, _, _, _, _, _, _, _, _, _, _, _, _, _, _, _, _, rfl, lk F0, lk F1, lk F2, lk F3, lk F4, lk F5, lk F6, lk F7, fun _ => rfl, lk F9, lk F10, lk F11, lk F12, lk F13, lk F14, lk F15, lk F16, F17, F18, F19, F20, fun h => F21 (lsf (by decide) h), fun h => la (F22 (ls (by decide) h))⟩
    · simp only [List.getElem?_toArray, List.getElem?_cons_zero, List.getElem?_cons_succ, Option.some.injEq] at ho
      subst ho
      obtain rfl := F6 (hd ⟨6, .guard⟩ (by simp) rfl)
      refine wpOp_step rfl (fun K hK => ?_)
      go_simp
      refine hK _ _ ?_
      exact ⟨_, _, _, _, _, _, _, _, _, _, _, _, _, _, _, _, _, rfl, lk F0, lk F1, lk F2, lk F3, lk F4, lk F5, lk F6, lk F7, lk F8, fun _ => rfl, lk F10, lk F11, lk F12, lk F13, lk F14, lk F15, lk F16, F17, F18, F19, F20, fun h => F21 (lsf (by decide) h), fun h => la (F22 (ls (by decide) h))⟩
    · simp only [List.getElem?_toArray, List.getElem?_cons_zero, List.getElem?_cons_succ, Option.some.injEq] at ho
      subst ho
      obtain rfl := F6 (hd ⟨6, .guard⟩ (by simp) rfl)
      refine wpOp_step rfl (fun K hK => ?_)
      go_simp
      refine hK _ _ ?_
      exact ⟨_, _, _, _, _, _, _, _, _, _, _, _, _, _, _, _, _, rfl, lk F0, lk F1, lk F2, lk F3, lk F4, lk F5, lk F6, lk F7, lk F8, lk F9, fun _ => rfl, lk F11, lk F12, lk F13, lk F14, lk F15, lk F16, F17, F18, F19, F20, fun h => F21 (lsf (by decide) h), fun h => la (F22 (ls (by decide) h))⟩
    · simp only [List.getElem?_toArray, List.getElem?_cons_zero, List.getElem?_cons_succ, Option.some.injEq] at ho
      subst ho
      obtain rfl := F6 (hd ⟨6, .guard⟩ (by simp) rfl)
      refine wpOp_step rfl (fun K hK => ?_)
      go_simp
      refine hK _ _ ?_
      exact ⟨_, _, _, _, _, _, _, _, _, _, _, _, _, _, _, _, _, rfl, lk F0, lk F1, lk F2, lk F3, lk F4, lk F5, lk F6, lk F7, lk F8, lk F9, lk F10, fun _ => rfl, lk F12, lk F13, lk F14, lk F15, lk F16, F17, F18, F19, F20, fun h => F21 (lsf (by decide) h), fun h => la (F22 (ls (by decide) h))⟩
    · simp only [List.getElem?_toArray, List.getElem?_cons_zero, List.getElem?_cons_succ, Option.some.injEq] at ho
      subst ho
      obtain rfl := F6 (hd ⟨6, .guard⟩ (by simp) rfl)
      refine wpOp_step rfl (fun K hK => ?_)
      go_simp
      refine hK _ _ ?_
      exact ⟨_, _, _, _, _, _, _, _, _, _, _, _, _, _, _, _, _, rfl, lk F0, lk F1, lk F2, lk F3, lk F4, lk F5, lk F6, lk F7, lk F8, lk F9, lk F10, lk F11, fun _ => rfl, lk F13, lk F14, lk F15, lk F16, F17, F18, F19, F20, fun h => F21 (lsf (by decide) h), fun h => la (F22 (ls (by decide) h))⟩
    · simp only [List.getElem?_toArray, List.getElem?_cons_zero, List.getElem?_cons_succ, Option.some.injEq] at ho
      subst ho
      obtain rfl := F6 (hd ⟨6, .guard⟩ (by simp) rfl)
      refine wpOp_step rfl (fun K hK => ?_)
      go_simp
      refine hK _ _ ?_
      exact ⟨_, _, _, _, _, _, _, _, _, _, _, _, _, _, _, _, _, rfl, lk F0, lk F1, lk F2, lk F3, lk F4, lk F5, lk F6, lk F7, lk F8, lk F9, lk F10, lk F11, lk F12, fun _ => rfl, lk F14, lk F15, lk F16, F17, F18, F19, F20, fun h => F21 (lsf (by decide) h), fun h => la (F22 (ls (by decide) h))⟩
    · simp only [List.getElem?_toArray, List.getElem?_cons_zero, List.getElem?_cons_succ, Option.some.injEq] at ho
      subst ho
      obtain rfl := F6 (hd ⟨6, .guard⟩ (by simp) rfl)
      refine wpOp_step rfl (fun K hK => ?_)
      go_simp
      refine hK _ _ ?_
      exact ⟨_, _, _, _, _, _, _, _, _, _, _, _, _, _, _, _, _, rfl, lk F0, lk F1, lk F2, lk F3, lk F4, lk F5, lk F6, lk F7, lk F8, lk F9, lk F10, lk F11, lk F12, lk F13, fun _ => rfl, lk F15, lk F16, F17, F18, F19, F20, fun h => F21 (lsf (by decide) h), fun h => la (F22 (ls (by decide) h))⟩
    · simp only [List.getElem?_toArray, List.getElem?_cons_zero, List.getElem?_cons_succ, Option.some.injEq] at ho
      subst ho
      obtain rfl := F6 (hd ⟨6, .data⟩ (by simp) rfl)
      refine wpOp_step rfl (fun K hK => ?_)
      go_simp
      refine hK _ _ ?_
      exact ⟨_, _, _, _, _, _, _, _, _, _, _, _, _, _, _, _, _, rfl, lk F0, lk F1, lk F2, lk F3, lk F4, lk F5, lk F6, lk F7, lk F8, lk F9, lk F10, lk F11, lk F12, lk F13, lk F14, fun _ => rfl, lk F16, F17, F18, F19, F20, fun h => F21 (lsf (by decide) h), fun h => la (F22 (ls (by decide) h))⟩
    · simp only [List.getElem?_toArray, List.getElem?_cons_zero, List.getElem?_cons_succ, Option.some.injEq] at ho
      subst ho
      obtain rfl := F15 (hd ⟨15, .data⟩ (by simp) rfl)
      refine wpOp_step rfl (fun K hK => ?_)
      go_simp
      refine hK _ _ ?_
      exact ⟨_, _, _, _, _, _, _, _, _, _, _, _, _, _, _, _, _, rfl, lk F0, lk F1, lk F2, lk F3, lk F4, lk F5, lk F6, lk F7, lk F8, lk F9, lk F10, lk F11, lk F12, lk F13, lk F14, lk F15, fun _ => rfl, F17, F18, F19, F20, fun h => lx hn h, fun _ => la (hd ⟨0, .phase⟩ (by simp) rfl)⟩
  · intro listed A w hall hI
    unfold RfI at hI
    obtain ⟨s10, hI⟩ := hI
    obtain ⟨s33, hI⟩ := hI
    obtain ⟨s34, hI⟩ := hI
    obtain ⟨s35, hI⟩ := hI
    obtain ⟨s36, hI⟩ := hI
    obtain ⟨s37, hI⟩ := hI
    obtain ⟨s38, hI⟩ := hI
    obtain ⟨s39, hI⟩ := hI
    obtain ⟨s40, hI⟩ := hI
    obtain ⟨s41, hI⟩ := hI
    obtain ⟨s42, hI⟩ := hI
    obtain ⟨s43, hI⟩ := hI
    obtain ⟨s44, hI⟩ := hI
    obtain ⟨s45, hI⟩ := hI
    obtain ⟨s46, hI⟩ := hI
    obtain ⟨s47, hI⟩ := hI
    obtain ⟨s48, hI⟩ := hI
    obtain ⟨rfl, hI⟩ := hI
    obtain ⟨F0, hI⟩ := hI
    obtain ⟨F1, hI⟩ := hI
    obtain ⟨F2, hI⟩ := hI
    obtain ⟨F3, hI⟩ := hI
    obtain ⟨F4, hI⟩ := hI
    obtain ⟨F5, hI⟩ := hI
    obtain ⟨F6, hI⟩ := hI
    obtain ⟨F7, hI⟩ := hI
    obtain ⟨F8, hI⟩ := hI
    obtain ⟨F9, hI⟩ := hI
    obtain ⟨F10, hI⟩ := hI
    obtain ⟨F11, hI⟩ := hI
    obtain ⟨F12, hI⟩ := hI
    obtain ⟨F13, hI⟩ := hI
    obtain ⟨F14, hI⟩ := hI
    obtain ⟨F15, hI⟩ := hI
    obtain ⟨F16, hI⟩ := hI
    obtain ⟨F17, hI⟩ := hI
    obtain ⟨F18, hI⟩ := hI
    obtain ⟨F19, hI⟩ := hI
    obtain ⟨F20, hI⟩ := hI
    obtain ⟨F21, hI⟩ := hI
    have F22 := hI; clear hI
    obtain rfl := F0 (hall 0 (by decide))
    obtain rfl := F1 (hall 1 (by decide))
    obtain rfl := F2 (hall 2 (by decide))
    obtain rfl := F3 (hall 3 (by decide))
    obtain rfl := F4 (hall 4 (by decide))
    obtain rfl := F5 (hall 5 (by decide))
    obtain rfl := F6 (hall 6 (by decide))
    obtain rfl := F7 (hall 7 (by decide))
    obtain rfl := F8 (hall 8 (by decide))
    obtain rfl := F9 (hall 9 (by decide))
    obtain rfl := F10 (hall 10 (by decide))
    obtain rfl := F11 (hall 11 (by decide))
    obtain rfl := F12 (hall 12 (by decide))
    obtain rfl := F13 (hall 13 (by decide))
    obtain rfl := F14 (hall 14 (by decide))
    obtain rfl := F15 (hall 15 (by decide))
    obtain rfl := F16 (hall 16 (by decide))
    have HB := F17
    have Q0 := F18
    have Q1 := F19
    have Q2 := F20
    have Q4 := F22
    exact hQ _ trivial HB
def RzI (w0 : World) (ad : Addr) (Al : Option Addr) (gt ni ka nl kl j _zi zo _ki _ko : Nat) (zn _kn : List UInt8) (_xm _xk _xn _xc : Int) (_xs : ByteArray) (_xb _r : Bool) (c1 c3 c5 c6 c7 c8 c9 c12 c13 c14 c15 c16 c17 c18 c19 c20 c21 c22 c23 c24 c25 c26 c27 c28 c29 c30 c31 c32 c49 : Value) (listed : Array Bool) (A : Act) (w : World) : Prop := ∃ (s10 s33 s34 s35 s36 s37 s38 s39 s40 s41 s42 s43 s44 s45 s46 s47 s48 : Value), A = { tmps := #[.slice Al nl kl, c1, .slice (some ad) ni ka, c3, .pointer (some ⟨gt, 0, none⟩), c5, c6, c7, c8, c9, s10, .int .i64 (j : Nat), c12, c13, c14, c15, c16, c17, c18, c19, c20, c21, c22, c23, c24, c25, c26, c27, c28, c29, c30, c31, c32, s33, s34, s35, s36, s37, s38, s39, s40, s41, s42, s43, s44, s45, s46, s47, s48, c49], defers := [] } ∧
  (listed.getD 0 false = true → s33 = .bool true) ∧
  (listed.getD 1 false = true → s34 = .bool true) ∧
  (listed.getD 2 false = true → s35 = .pointer (some ⟨gt, 0, none⟩)) ∧
  (listed.getD 3 false = true → s36 = .int .i64 0) ∧
  (listed.getD 4 false = true → s37 = .bool false) ∧
  (listed.getD 5 false = true → s38 = .bool false) ∧
  (listed.getD 6 false = true → s39 = .bool false) ∧
  (listed.getD 7 false = true → s40 = undef) ∧
  (listed.getD 8 false = true → s41 = undef) ∧
  (listed.getD 9 false = true → s42 = undef) ∧
  (listed.getD 10 false = true → s43 = undef) ∧
  (listed.getD 11 false = true → s44 = undef) ∧
  (listed.getD 12 false = true → s45 = undef) ∧
  (listed.getD 13 false = true → s46 = undef) ∧
  (listed.getD 14 false = true → s47 = undef) ∧
  (listed.getD 15 false = true → s48 = .bool false) ∧
  (listed.getD 16 false = true → s10 = .bool false) ∧
  Below w0.heap.size w0 w ∧
  w.cell? ⟨gt, 0, none⟩ = some (.int .i64 0) ∧
  w.cell? ⟨gt, 1, none⟩ = some (.string (ba' zn)) ∧
  w.cell? ⟨gt, 2, none⟩ = some (.int .i64 (zo : Nat)) ∧
  (listed.getD 16 false = false → s10 = .bool true) ∧
  (listed.getD 16 false = true → listed.getD 0 false = true)
set_option maxRecDepth 100000 in
set_option maxHeartbeats 16000000 in
theorem Rz_region (ad : Addr) (Al : Option Addr) (gt ni ka nl kl j zi zo ki ko : Nat) (zn kn : List UInt8) (xm xk xn xc : Int) (xs : ByteArray) (xb r : Bool) {x10 x33 x34 x35 x36 x37 x38 x39 x40 x41 x42 x43 x44 x45 x46 x47 x48 : Value} {c1 c3 c5 c6 c7 c8 c9 c12 c13 c14 c15 c16 c17 c18 c19 c20 c21 c22 c23 c24 c25 c26 c27 c28 c29 c30 c31 c32 c49 : Value} (w0 : World) {W : World} {Q : Exit → Act → World → Prop} (hb0 : Below w0.heap.size w0 W) (C0 : W.cell? ⟨gt, 0, none⟩ = some (.int .i64 0)) (C1 : W.cell? ⟨gt, 1, none⟩ = some (.string (ba' zn))) (C2 : W.cell? ⟨gt, 2, none⟩ = some (.int .i64 (zo : Nat))) (X10 : x10 = .bool true) (_Y0 : Hid (∀ w1, Below w0.heap.size w0 w1 → w1.cell? (ad.add (j * 6)) = some (.int .i64 xm))) (_Y1 : Hid (∀ w1, Below w0.heap.size w0 w1 → w1.cell? { block := (ad.add (j * 6)).block, off := (ad.add (j * 6)).off + 1 } = some (.int .i64 xk))) (_Y2 : Hid (∀ w1, Below w0.heap.size w0 w1 → w1.cell? { block := (ad.add (j * 6)).block, off := (ad.add (j * 6)).off + 2 } = some (.int .i64 xn))) (_Y3 : Hid (∀ w1, Below w0.heap.size w0 w1 → w1.cell? { block := (ad.add (j * 6)).block, off := (ad.add (j * 6)).off + 3 } = some (.int .i64 xc))) (_Y4 : Hid (∀ w1, Below w0.heap.size w0 w1 → w1.cell? { block := (ad.add (j * 6)).block, off := (ad.add (j * 6)).off + 4 } = some (.string xs))) (_Y5 : Hid (∀ w1, Below w0.heap.size w0 w1 → w1.cell? { block := (ad.add (j * 6)).block, off := (ad.add (j * 6)).off + 5 } = some (.bool xb))) (_hj : j < ni) (_hj' : decide (j < ni) = true) (_H1 : Hid (∀ w1, Below w0.heap.size w0 w1 → Calls Tryd.prog 15 #[.slice Al nl kl, .agg #[.int .i64 xm, .int .i64 xk, .int .i64 xn, .int .i64 xc, .string xs, .bool xb]] w1 fun e w' => e = .returned (.agg #[.int .i64 (ki : Nat), .string (ba' kn), .int .i64 (ko : Nat)]) ∧ Below w1.heap.size w1 w')) (_H2 : Hid (∀ w1, Below w0.heap.size w0 w1 → Calls Tryd.prog 18 #[.agg #[.int .i64 (ki : Nat), .string (ba' kn), .int .i64 (ko : Nat)], .agg #[.int .i64 (zi : Nat), .string (ba' zn), .int .i64 (zo : Nat)]] w1 fun e w' => e = .returned (.bool r) ∧ Below w1.heap.size w1 w'))
    (hQ : ∀ (w : World) , (True) → Below w0.heap.size w0 w → Q .normal { tmps := #[.slice Al nl kl, c1, .slice (some ad) ni ka, c3, .pointer (some ⟨gt, 0, none⟩), c5, c6, c7, c8, c9, .bool false, .int .i64 (j : Nat), c12, c13, c14, c15, c16, c17, c18, c19, c20, c21, c22, c23, c24, c25, c26, c27, c28, c29, c30, c31, c32, .bool true, .bool true, .pointer (some ⟨gt, 0, none⟩), .int .i64 0, .bool false, .bool false, .bool false, undef, undef, undef, undef, undef, undef, undef, undef, .bool false, c49], defers := [] } w) :
    Code.wp Tryd.prog ((Tryd.f14.body.bind (regionOf 10)).getD .skip) Q { tmps := #[.slice Al nl kl, c1, .slice (some ad) ni ka, c3, .pointer (some ⟨gt, 0, none⟩), c5, c6, c7, c8, c9, x10, .int .i64 (j : Nat), c12, c13, c14, c15, c16, c17, c18, c19, c20, c21, c22, c23, c24, c25, c26, c27, c28, c29, c30, c31, c32, x33, x34, x35, x36, x37, x38, x39, x40, x41, x42, x43, x44, x45, x46, x47, x48, c49], defers := [] } W := by
  conv => arg 2; whnf
  refine wp_region_inv (by kernel_rfl) (by kernel_rfl) (RzI w0 ad Al gt ni ka nl kl j zi zo ki ko zn kn xm xk xn xc xs xb r c1 c3 c5 c6 c7 c8 c9 c12 c13 c14 c15 c16 c17 c18 c19 c20 c21 c22 c23 c24 c25 c26 c27 c28 c29 c30 c31 c32 c49) ?_ ?_ ?_
  · exact ⟨_, _, _, _, _, _, _, _, _, _, _, _, _, _, _, _, _, rfl, fun h => absurd h l0, fun h => absurd h l0, fun h => absurd h l0, fun h => absurd h l0, fun h => absurd h l0, fun h => absurd h l0, fun h => absurd h l0, fun h => absurd h l0, fun h => absurd h l0, fun h => absurd h l0, fun h => absurd h l0, fun h => absurd h l0, fun h => absurd h l0, fun h => absurd h l0, fun h => absurd h l0, fun h => absurd h l0, fun h => absurd h l0, bdr hb0, C0, C1, C2, fun _ => X10, fun h => absurd h l0⟩
  · intro i o listed A w hi ho hd hn hI
    unfold RzI at hI
    obtain ⟨s10, hI⟩ := hI
    obtain ⟨s33, hI⟩ := hI
    obtain ⟨s34, hI⟩ := hI
    obtain ⟨s35, hI⟩ := hI
    obtain ⟨s36, hI⟩ := hI
    obtain ⟨s37, hI⟩ := hI
    obtain ⟨s38, hI⟩ := hI
    obtain ⟨s39, hI⟩ := hI
    obtain ⟨s40, hI⟩ := hI
    obtain ⟨s41, hI⟩ := hI
    obtain ⟨s42, hI⟩ := hI
    obtain ⟨s43, hI⟩ := hI
    obtain ⟨s44, hI⟩ := hI
    obtain ⟨s45, hI⟩ := hI
    obtain ⟨s46, hI⟩ := hI
    obtain ⟨s47, hI⟩ := hI
    obtain ⟨s48, hI⟩ := hI
    obtain ⟨rfl, hI⟩ := hI
    obtain ⟨F0, hI⟩ := hI
    obtain ⟨F1, hI⟩ := hI
    obtain ⟨F2, hI⟩ := hI
    obtain ⟨F3, hI⟩ := hI
    obtain ⟨F4, hI⟩ := hI
    obtain ⟨F5, hI⟩ := hI
    obtain ⟨F6, hI⟩ := hI
    obtain ⟨F7, hI⟩ := hI
    obtain ⟨F8, hI⟩ := hI
    obtain ⟨F9, hI⟩ := hI
    obtain ⟨F10, hI⟩ := hI
    obtain ⟨F11, hI⟩ := hI
    obtain ⟨F12, hI⟩ := hI
    obtain ⟨F13, hI⟩ := hI
    obtain ⟨F14, hI⟩ := hI
    obtain ⟨F15, hI⟩ := hI
    obtain ⟨F16, hI⟩ := hI
    obtain ⟨F17, hI⟩ := hI
    obtain ⟨F18, hI⟩ := hI
    obtain ⟨F19, hI⟩ := hI
    obtain ⟨F20, hI⟩ := hI
    obtain ⟨F21, hI⟩ := hI
    have F22 := hI; clear hI
    have hi' : i < 17 := hi
    clear hi
    rcases (by omega : i = 0 ∨ i = 1 ∨ i = 2 ∨ i = 3 ∨ i = 4 ∨ i = 5 ∨ i = 6 ∨ i = 7 ∨ i = 8 ∨ i = 9 ∨ i = 10 ∨ i = 11 ∨ i = 12 ∨ i = 13 ∨ i = 14 ∨ i = 15 ∨ i = 16) with rfl | rfl | rfl | rfl | rfl | rfl | rfl | rfl | rfl | rfl | rfl | rfl | rfl | rfl | rfl | rfl | rfl
    · simp only [List.getElem?_toArray, List.getElem?_cons_zero, Option.some.injEq] at ho
      subst ho
      obtain rfl := F21 (ln hn F22)
      refine wpOp_step rfl (fun K hK => ?_)
      go_simp
      refine hK _ _ ?_
      exact ⟨_, _, _, _, _, _, _, _, _, _, _, _, _, _, _, _, _, rfl, fun _ => rfl, lk F1, lk F2, lk F3, lk F4, lk F5, lk F6, lk F7, lk F8, lk F9, lk F10, lk F11, lk F12, lk F13, lk F14, lk F15, lk F16, F17, F18, F19, F20, fun h => F21 (lsf (by decide) h), fun h => la (F22 (ls (by decide) h))⟩
    · simp only [List.getElem?_toArray, List.getElem?_cons_zero, List.getElem?_cons_succ, Option.some.injEq] at ho
      subst ho
      obtain rfl := F0 (hd ⟨0, .data⟩ (by simp) rfl)
      refine wpOp_step rfl (fun K hK => ?_)
      go_simp
      refine hK _ _ ?_
      exact ⟨_, _, _, _, _, _, _, _, _, _, _, _, _, _, _, _, _, rfl, lk F0, fun _ => rfl, lk F2, lk F3, lk F4, lk F5, lk F6, lk F7, lk F8, lk F9, lk F10, lk F11, lk F12, lk F13, lk F14, lk F15, lk F16, F17, F18, F19, F20, fun h => F21 (lsf (by decide) h), fun h => la (F22 (ls (by decide) h))⟩
    · simp only [List.getElem?_toArray, List.getElem?_cons_zero, List.getElem?_cons_succ, Option.some.injEq] at ho
      subst ho
      obtain rfl := F1 (hd ⟨1, .guard⟩ (by simp) rfl)
      refine wpOp_step rfl (fun K hK => ?_)
      go_simp
      refine hK _ _ ?_
      exact ⟨_, _, _, _, _, _, _, _, _, _, _, _, _, _, _, _, _, rfl, lk F0, lk F1, fun _ => rfl, lk F3, lk F4, lk F5, lk F6, lk F7, lk F8, lk F9, lk F10, lk F11, lk F12, lk F13, lk F14, lk F15, lk F16, F17, F18, F19, F20, fun h => F21 (lsf (by decide) h), fun h => la (F22 (ls (by decide) h))⟩
    · simp only [List.getElem?_toArray, List.getElem?_cons_zero, List.getElem?_cons_succ, Option.some.injEq] at ho
      subst ho
      obtain rfl := F2 (hd ⟨2, .data⟩ (by simp) rfl)
      obtain rfl := F1 (hd ⟨1, .guard⟩ (by simp) rfl)
      have h0 := F18; have h1 := F19; have h2 := F20
      refine wpOp_step rfl (fun K hK => ?_)
      go_simp
      refine hK _ _ ?_
      exact ⟨_, _, _, _, _, _, _, _, _, _, _, _, _, _, _, _, _, rfl, lk F0, lk F1, lk F2, fun _ => rfl, lk F4, lk F5, lk F6, lk F7, lk F8, lk F9, lk F10, lk F11, lk F12, lk F13, lk F14, lk F15, lk F16, F17, F18, F19, F20, fun h => F21 (lsf (by decide) h), fun h => la (F22 (ls (by decide) h))⟩
    · simp only [List.getElem?_toArray, List.getElem?_cons_zero, List.getElem?_cons_succ, Option.some.injEq] at ho
      subst ho
      obtain rfl := F3 (hd ⟨3, .data⟩ (by simp) rfl)
      obtain rfl := F1 (hd ⟨1, .guard⟩ (by simp) rfl)
      refine wpOp_step rfl (fun K hK => ?_)
      go_simp
      refine hK _ _ ?_
      exact ⟨_, _, _, _, _, _, _, _, _, _, _, _, _, _, _, _, _, rfl, lk F0, lk F1, lk F2, lk F3, fun _ => rfl, lk F5, lk F6, lk F7, lk F8, lk F9, lk F10, lk F11, lk F12, lk F13, lk F14, lk F15, lk F16, F17, F18, F19, F20, fun h => F21 (lsf (by decide) h), fun h => la (F22 (ls (by decide) h))⟩
    · simp only [List.getElem?_toArray, List.getElem?_cons_zero, List.getElem?_cons_succ, Option.some.injEq] at ho
      subst ho
      obtain rfl := F1 (hd ⟨1, .data⟩ (by simp) rfl)
      obtain rfl := F4 (hd ⟨4, .data⟩ (by simp) rfl)
      refine wpOp_step rfl (fun K hK => ?_)
      go_simp
      refine hK _ _ ?_
      exact ⟨_, _, _, _, _, _, _, _, _, _, _, _, _, _, _, _, _, rfl, lk F0, lk F1, lk F2, lk F3, lk F4, fun _ => rfl, lk F6, lk F7, lk F8, lk F9, lk F10, lk F11, lk F12, lk F13, lk F14, lk F15, lk F16, F17, F18, F19, F20, fun h => F21 (lsf (by decide) h), fun h => la (F22 (ls (by decide) h))⟩
    · simp only [List.getElem?_toArray, List.getElem?_cons_zero, List.getElem?_cons_succ, Option.some.injEq] at ho
      subst ho
      obtain rfl := F5 (hd ⟨5, .data⟩ (by simp) rfl)
      refine wpOp_step rfl (fun K hK => ?_)
      go_simp
      refine hK _ _ ?_
      exact ⟨_, _, _, _, _, _, _, _, _, _, _, _, _, _, _, _, _, rfl, lk F0, lk F1, lk F2, lk F3, lk F4, lk F5, fun _ => rfl, lk F7, lk F8, lk F9, lk F10, lk F11, lk F12, lk F13, lk F14, lk F15, lk F16, F17, F18, F19, F20, fun h => F21 (lsf (by decide) h), fun h => la (F22 (ls (by decide) h))⟩
    · simp only [List.getElem?_toArray, List.getElem?_cons_zero, List.getElem?_cons_succ, Option.some.injEq] at ho
      subst ho
      obtain rfl := F6 (hd ⟨6, .guard⟩ (by simp) rfl)
      refine wpOp_step rfl (fun K hK => ?_)
      go_simp
      refine hK _ _ ?_
      exact ⟨_, _, _, _, _, _, _, _, _, _, _, _, _, _, _, _, _, rfl, lk F0, lk F1, lk F2, lk F3, lk F4, lk F5, lk F6, fun _ => rfl, lk F8, lk F9, lk F10, lk F11, lk F12, lk F13, lk F14, lk F15, lk F16, F17, F18, F19, F20, fun h => F21 (lsf (by decide) h), fun h => la (F22 (ls (by decide) h))⟩
    · simp only [List.getElem?_toArray, List.getElem?_cons_zero, List.getElem?_cons_succ, Option.some.injEq] at ho
      subst ho
      obtain rfl := F6 (hd ⟨6, .guard⟩ (by simp) rfl)
      refine wpOp_step rfl (fun K hK => ?_)
      go_simp
      refine hK _ _ ?_
      exact ⟨_, _, _, _, _, _, _, _, _, _, _, _, _, _, _, _, _, rfl, lk F0, lk F1, lk F2, lk F3, lk F4, lk F5, lk F6, lk F7, fun _ => rfl, lk F9, lk F10, lk F11, lk F12, lk F13, lk F14, lk F15, lk F16, F17, F18, F19, F20, fun h => F21 (lsf (by decide) h), fun h => la (F22 (ls (by decide) h))⟩
    · simp only [List.getElem?_toArray, List.getElem?_cons_zero, List.getElem?_cons_succ, Option.some.injEq] at ho
      subst ho
      obtain rfl := F6 (hd ⟨6, .guard⟩ (by simp) rfl)
      refine wpOp_step rfl (fun K hK => ?_)
      go_simp
      refine hK _ _ ?_
      exact ⟨_, _, _, _, _, _, _, _, _, _, _, _, _, _, _, _, _, rfl, lk F0, lk F1, lk F2, lk F3, lk F4, lk F5, lk F6, lk F7, lk F8, fun _ => rfl, lk F10, lk F11, lk F12, lk F13, lk F14, lk F15, lk F16, F17, F18, F19, F20, fun h => F21 (lsf (by decide) h), fun h => la (F22 (ls (by decide) h))⟩
    · simp only [List.getElem?_toArray, List.getElem?_cons_zero, List.getElem?_cons_succ, Option.some.injEq] at ho
      subst ho
      obtain rfl := F6 (hd ⟨6, .guard⟩ (by simp) rfl)
      refine wpOp_step rfl (fun K hK => ?_)
      go_simp
      refine hK _ _ ?_
      exact ⟨_, _, _, _, _, _, _, _, _, _, _, _, _, _, _, _, _, rfl, lk F0, lk F1, lk F2, lk F3, lk F4, lk F5, lk F6, lk F7, lk F8, lk F9, fun _ => rfl, lk F11, lk F12, lk F13, lk F14, lk F15, lk F16, F17, F18, F19, F20, fun h => F21 (lsf (by decide) h), fun h => la (F22 (ls (by decide) h))⟩
    · simp only [List.getElem?_toArray, List.getElem?_cons_zero, List.getElem?_cons_succ, Option.some.injEq] at ho
      subst ho
      obtain rfl := F6 (hd ⟨6, .guard⟩ (by simp) rfl)
      refine wpOp_step rfl (fun K hK => ?_)
      go_simp
      refine hK _ _ ?_
      exact ⟨_, _, _, _, _, _, _, _, _, _, _, _, _, _, _, _, _, rfl, lk F0, lk F1, lk F2, lk F3, lk F4, lk F5, lk F6, lk F7, lk F8, lk F9, lk F10, fun _ => rfl, lk F12, lk F13, lk F14, lk F15, lk F16, F17, F18, F19, F20, fun h => F21 (lsf (by decide) h), fun h => la (F22 (ls (by decide) h))⟩
    · simp only [List.getElem?_toArray, List.getElem?_cons_zero, List.getElem?_cons_succ, Option.some.injEq] at ho
      subst ho
      obtain rfl := F6 (hd ⟨6, .guard⟩ (by simp) rfl)
      refine wpOp_step rfl (fun K hK => ?_)
      go_simp
      refine hK _ _ ?_
      exact ⟨_, _, _, _, _, _, _, _, _, _, _, _, _, _, _, _, _, rfl, lk F0, lk F1, lk F2, lk F3, lk F4, lk F5, lk F6, lk F7, lk F8, lk F9, lk F10, lk F11, fun _ => rfl, lk F13, lk F14, lk F15, lk F16, F17, F18, F19, F20, fun h => F21 (lsf (by decide) h), fun h => la (F22 (ls (by decide) h))⟩
    · simp only [List.getElem?_toArray, List.getElem?_cons_zero, List.getElem?_cons_succ, Option.some.injEq] at ho
      subst ho
      obtain rfl := F6 (hd ⟨6, .guard⟩ (by simp) rfl)
      refine wpOp_step rfl (fun K hK => ?_)
      go_simp
      refine hK _ _ ?_
      exact ⟨_, _, _, _, _, _, _, _, _, _, _, _, _, _, _, _, _, rfl, lk F0, lk F1, lk F2, lk F3, lk F4, lk F5, lk F6, lk F7, lk F8, lk F9, lk F10, lk F11, lk F12, fun _ => rfl, lk F14, lk F15, lk F16, F17, F18, F19, F20, fun h => F21 (lsf (by decide) h), fun h => la (F22 (ls (by decide) h))⟩
    · simp only [List.getElem?_toArray, List.getElem?_cons_zero, List.getElem?_cons_succ, Option.some.injEq] at ho
      subst ho
      obtain rfl := F6 (hd ⟨6, .guard⟩ (by simp) rfl)
      refine wpOp_step rfl (fun K hK => ?_)
      go_simp
      refine hK _ _ ?_
      exact ⟨_, _, _, _, _, _, _, _, _, _, _, _, _, _, _, _, _, rfl, lk F0, lk F1, lk F2, lk F3, lk F4, lk F5, lk F6, lk F7, lk F8, lk F9, lk F10, lk F11, lk F12, lk F13, fun _ => rfl, lk F15, lk F16, F17, F18, F19, F20, fun h => F21 (lsf (by decide) h), fun h => la (F22 (ls (by decide) h))⟩
    · simp only [List.getElem?_toArray, List.getElem?_cons_zero, List.getElem?_cons_succ, Option.some.injEq] at ho
      subst ho
      obtain rfl := F6 (hd ⟨6, .data⟩ (by simp) rfl)
      refine wpOp_step rfl (fun K hK => ?_)
      go_simp
      refine hK _ _ ?_
      exact ⟨_, _, _, _, _, _, _, _, _, _, _, _, _, _, _, _, _, rfl, lk F0, lk F1, lk F2, lk F3, lk F4, lk F5, lk F6, lk F7, lk F8, lk F9, lk F10, lk F11, lk F12, lk F13, lk F14, fun _ => rfl, lk F16, F17, F18, F19, F20, fun h => F21 (lsf (by decide) h), fun h => la (F22 (ls (by decide) h))⟩
    · simp only [List.getElem?_toArray, List.getElem?_cons_zero, List.getElem?_cons_succ, Option.some.injEq] at ho
      subst ho
      obtain rfl := F15 (hd ⟨15, .data⟩ (by simp) rfl)
      refine wpOp_step rfl (fun K hK => ?_)
      go_simp
      refine hK _ _ ?_
      exact ⟨_, _, _, _, _, _, _, _, _, _, _, _, _, _, _, _, _, rfl, lk F0, lk F1, lk F2, lk F3, lk F4, lk F5, lk F6, lk F7, lk F8, lk F9, lk F10, lk F11, lk F12, lk F13, lk F14, lk F15, fun _ => rfl, F17, F18, F19, F20, fun h => lx hn h, fun _ => la (hd ⟨0, .phase⟩ (by simp) rfl)⟩
  · intro listed A w hall hI
    unfold RzI at hI
    obtain ⟨s10, hI⟩ := hI
    obtain ⟨s33, hI⟩ := hI
    obtain ⟨s34, hI⟩ := hI
    obtain ⟨s35, hI⟩ := hI
    obtain ⟨s36, hI⟩ := hI
    obtain ⟨s37, hI⟩ := hI
    obtain ⟨s38, hI⟩ := hI
    obtain ⟨s39, hI⟩ := hI
    obtain ⟨s40, hI⟩ := hI
    obtain ⟨s41, hI⟩ := hI
    obtain ⟨s42, hI⟩ := hI
    obtain ⟨s43, hI⟩ := hI
    obtain ⟨s44, hI⟩ := hI
    obtain ⟨s45, hI⟩ := hI
    obtain ⟨s46, hI⟩ := hI
    obtain ⟨s47, hI⟩ := hI
    obtain ⟨s48, hI⟩ := hI
    obtain ⟨rfl, hI⟩ := hI
    obtain ⟨F0, hI⟩ := hI
    obtain ⟨F1, hI⟩ := hI
    obtain ⟨F2, hI⟩ := hI
    obtain ⟨F3, hI⟩ := hI
    obtain ⟨F4, hI⟩ := hI
    obtain ⟨F5, hI⟩ := hI
    obtain ⟨F6, hI⟩ := hI
    obtain ⟨F7, hI⟩ := hI
    obtain ⟨F8, hI⟩ := hI
    obtain ⟨F9, hI⟩ := hI
    obtain ⟨F10, hI⟩ := hI
    obtain ⟨F11, hI⟩ := hI
    obtain ⟨F12, hI⟩ := hI
    obtain ⟨F13, hI⟩ := hI
    obtain ⟨F14, hI⟩ := hI
    obtain ⟨F15, hI⟩ := hI
    obtain ⟨F16, hI⟩ := hI
    obtain ⟨F17, hI⟩ := hI
    obtain ⟨F18, hI⟩ := hI
    obtain ⟨F19, hI⟩ := hI
    obtain ⟨F20, hI⟩ := hI
    obtain ⟨F21, hI⟩ := hI
    have F22 := hI; clear hI
    obtain rfl := F0 (hall 0 (by decide))
    obtain rfl := F1 (hall 1 (by decide))
    obtain rfl := F2 (hall 2 (by decide))
    obtain rfl := F3 (hall 3 (by decide))
    obtain rfl := F4 (hall 4 (by decide))
    obtain rfl := F5 (hall 5 (by decide))
    obtain rfl := F6 (hall 6 (by decide))
    obtain rfl := F7 (hall 7 (by decide))
    obtain rfl := F8 (hall 8 (by decide))
    obtain rfl := F9 (hall 9 (by decide))
    obtain rfl := F10 (hall 10 (by decide))
    obtain rfl := F11 (hall 11 (by decide))
    obtain rfl := F12 (hall 12 (by decide))
    obtain rfl := F13 (hall 13 (by decide))
    obtain rfl := F14 (hall 14 (by decide))
    obtain rfl := F15 (hall 15 (by decide))
    obtain rfl := F16 (hall 16 (by decide))
    have HB := F17
    have Q0 := F18
    have Q1 := F19
    have Q2 := F20
    have Q4 := F22
    exact hQ _ trivial HB
def RtI (w0 : World) (ad : Addr) (Al : Option Addr) (gt ni ka nl kl j zi zo ki ko : Nat) (zn kn : List UInt8) (xm xk xn xc : Int) (xs : ByteArray) (xb r : Bool) (c1 c3 c5 c6 c7 c8 c9 c12 c13 c14 c15 c16 c17 c18 c19 c20 c21 c22 c23 c24 c25 c26 c27 c28 c29 c30 c31 c32 c49 : Value) (listed : Array Bool) (A : Act) (w : World) : Prop := ∃ (s10 s33 s34 s35 s36 s37 s38 s39 s40 s41 s42 s43 s44 s45 s46 s47 s48 : Value), A = { tmps := #[.slice Al nl kl, c1, .slice (some ad) ni ka, c3, .pointer (some ⟨gt, 0, none⟩), c5, c6, c7, c8, c9, s10, .int .i64 (j : Nat), c12, c13, c14, c15, c16, c17, c18, c19, c20, c21, c22, c23, c24, c25, c26, c27, c28, c29, c30, c31, c32, s33, s34, s35, s36, s37, s38, s39, s40, s41, s42, s43, s44, s45, s46, s47, s48, c49], defers := [] } ∧
  (listed.getD 0 false = true → s33 = .bool true) ∧
  (listed.getD 1 false = true → s34 = .bool true) ∧
  (listed.getD 2 false = true → s35 = .pointer (some ⟨gt, 0, none⟩)) ∧
  (listed.getD 3 false = true → s36 = .int .i64 (zi : Nat)) ∧
  (listed.getD 4 false = true → s37 = .bool true) ∧
  (listed.getD 5 false = true → s38 = .bool true) ∧
  (listed.getD 6 false = true → s39 = .bool true) ∧
  (listed.getD 7 false = true → s40 = .slice Al nl kl) ∧
  (listed.getD 8 false = true → s41 = .slice (some ad) ni ka) ∧
  (listed.getD 9 false = true → s42 = .int .i64 (j : Nat)) ∧
  (listed.getD 10 false = true → s43 = .pointer (some (ad.add (j * 6)))) ∧
  (listed.getD 11 false = true → s44 = .agg #[.int .i64 xm, .int .i64 xk, .int .i64 xn, .int .i64 xc, .string xs, .bool xb]) ∧
  (listed.getD 12 false = true → s45 = .agg #[.int .i64 (ki : Nat), .string (ba' kn), .int .i64 (ko : Nat)]) ∧
  (listed.getD 13 false = true → s46 = .agg #[.int .i64 (zi : Nat), .string (ba' zn), .int .i64 (zo : Nat)]) ∧
  (listed.getD 14 false = true → s47 = .bool r) ∧
  (listed.getD 15 false = true → s48 = .bool r) ∧
  (listed.getD 16 false = true → s10 = .bool r) ∧
  Below w0.heap.size w0 w ∧
  w.cell? ⟨gt, 0, none⟩ = some (.int .i64 (zi : Nat)) ∧
  w.cell? ⟨gt, 1, none⟩ = some (.string (ba' zn)) ∧
  w.cell? ⟨gt, 2, none⟩ = some (.int .i64 (zo : Nat)) ∧
  (listed.getD 16 false = false → s10 = .bool true) ∧
  (listed.getD 16 false = true → listed.getD 0 false = true)
set_option maxRecDepth 100000 in
set_option maxHeartbeats 16000000 in
theorem Rt_region (ad : Addr) (Al : Option Addr) (gt ni ka nl kl j zi zo ki ko : Nat) (zn kn : List UInt8) (xm xk xn xc : Int) (xs : ByteArray) (xb r : Bool) {x10 x33 x34 x35 x36 x37 x38 x39 x40 x41 x42 x43 x44 x45 x46 x47 x48 : Value} {c1 c3 c5 c6 c7 c8 c9 c12 c13 c14 c15 c16 c17 c18 c19 c20 c21 c22 c23 c24 c25 c26 c27 c28 c29 c30 c31 c32 c49 : Value} (w0 : World) {W : World} {Q : Exit → Act → World → Prop} (hb0 : Below w0.heap.size w0 W) (C0 : W.cell? ⟨gt, 0, none⟩ = some (.int .i64 (zi : Nat))) (C1 : W.cell? ⟨gt, 1, none⟩ = some (.string (ba' zn))) (C2 : W.cell? ⟨gt, 2, none⟩ = some (.int .i64 (zo : Nat))) (X10 : x10 = .bool true) (Y0 : Hid (∀ w1, Below w0.heap.size w0 w1 → w1.cell? (ad.add (j * 6)) = some (.int .i64 xm))) (Y1 : Hid (∀ w1, Below w0.heap.size w0 w1 → w1.cell? { block := (ad.add (j * 6)).block, off := (ad.add (j * 6)).off + 1 } = some (.int .i64 xk))) (Y2 : Hid (∀ w1, Below w0.heap.size w0 w1 → w1.cell? { block := (ad.add (j * 6)).block, off := (ad.add (j * 6)).off + 2 } = some (.int .i64 xn))) (Y3 : Hid (∀ w1, Below w0.heap.size w0 w1 → w1.cell? { block := (ad.add (j * 6)).block, off := (ad.add (j * 6)).off + 3 } = some (.int .i64 xc))) (Y4 : Hid (∀ w1, Below w0.heap.size w0 w1 → w1.cell? { block := (ad.add (j * 6)).block, off := (ad.add (j * 6)).off + 4 } = some (.string xs))) (Y5 : Hid (∀ w1, Below w0.heap.size w0 w1 → w1.cell? { block := (ad.add (j * 6)).block, off := (ad.add (j * 6)).off + 5 } = some (.bool xb))) (hj : j < ni) (_hj' : decide (j < ni) = true) (H1 : Hid (∀ w1, Below w0.heap.size w0 w1 → Calls Tryd.prog 15 #[.slice Al nl kl, .agg #[.int .i64 xm, .int .i64 xk, .int .i64 xn, .int .i64 xc, .string xs, .bool xb]] w1 fun e w' => e = .returned (.agg #[.int .i64 (ki : Nat), .string (ba' kn), .int .i64 (ko : Nat)]) ∧ Below w1.heap.size w1 w')) (H2 : Hid (∀ w1, Below w0.heap.size w0 w1 → Calls Tryd.prog 18 #[.agg #[.int .i64 (ki : Nat), .string (ba' kn), .int .i64 (ko : Nat)], .agg #[.int .i64 (zi : Nat), .string (ba' zn), .int .i64 (zo : Nat)]] w1 fun e w' => e = .returned (.bool r) ∧ Below w1.heap.size w1 w')) (_ht : ¬ zi = 0) (ht1 : ((zi : Int) != 0) = true) (_ht2 : (zi = 0) = False)
    (hQ : ∀ (w : World) , (True) → Below w0.heap.size w0 w → Q .normal { tmps := #[.slice Al nl kl, c1, .slice (some ad) ni ka, c3, .pointer (some ⟨gt, 0, none⟩), c5, c6, c7, c8, c9, .bool r, .int .i64 (j : Nat), c12, c13, c14, c15, c16, c17, c18, c19, c20, c21, c22, c23, c24, c25, c26, c27, c28, c29, c30, c31, c32, .bool true, .bool true, .pointer (some ⟨gt, 0, none⟩), .int .i64 (zi : Nat), .bool true, .bool true, .bool true, .slice Al nl kl, .slice (some ad) ni ka, .int .i64 (j : Nat), .pointer (some (ad.add (j * 6))), .agg #[.int .i64 xm, .int .i64 xk, .int .i64 xn, .int .i64 xc, .string xs, .bool xb], .agg #[.int .i64 (ki : Nat), .string (ba' kn), .int .i64 (ko : Nat)], .agg #[.int .i64 (zi : Nat), .string (ba' zn), .int .i64 (zo : Nat)], .bool r, .bool r, c49], defers := [] } w) :
    Code.wp Tryd.prog ((Tryd.f14.body.bind (regionOf 10)).getD .skip) Q { tmps := #[.slice Al nl kl, c1, .slice (some ad) ni ka, c3, .pointer (some ⟨gt, 0, none⟩), c5, c6, c7, c8, c9, x10, .int .i64 (j : Nat), c12, c13, c14, c15, c16, c17, c18, c19, c20, c21, c22, c23, c24, c25, c26, c27, c28, c29, c30, c31, c32, x33, x34, x35, x36, x37, x38, x39, x40, x41, x42, x43, x44, x45, x46, x47, x48, c49], defers := [] } W := by
  conv => arg 2; whnf
  refine wp_region_inv (by kernel_rfl) (by kernel_rfl) (RtI w0 ad Al gt ni ka nl kl j zi zo ki ko zn kn xm xk xn xc xs xb r c1 c3 c5 c6 c7 c8 c9 c12 c13 c14 c15 c16 c17 c18 c19 c20 c21 c22 c23 c24 c25 c26 c27 c28 c29 c30 c31 c32 c49) ?_ ?_ ?_
  · exact ⟨_, _, _, _, _, _, _, _, _, _, _, _, _, _, _, _, _, rfl, fun h => absurd h l0, fun h => absurd h l0, fun h => absurd h l0, fun h => absurd h l0, fun h => absurd h l0, fun h => absurd h l0, fun h => absurd h l0, fun h => absurd h l0, fun h => absurd h l0, fun h => absurd h l0, fun h => absurd h l0, fun h => absurd h l0, fun h => absurd h l0, fun h => absurd h l0, fun h => absurd h l0, fun h => absurd h l0, fun h => absurd h l0, bdr hb0, C0, C1, C2, fun _ => X10, fun h => absurd h l0⟩
  · intro i o listed A w hi ho hd hn hI
    unfold RtI at hI
    obtain ⟨s10, hI⟩ := hI
    obtain ⟨s33, hI⟩ := hI
    obtain ⟨s34, hI⟩ := hI
    obtain ⟨s35, hI⟩ := hI
    obtain ⟨s36, hI⟩ := hI
    obtain ⟨s37, hI⟩ := hI
    obtain ⟨s38, hI⟩ := hI
    obtain ⟨s39, hI⟩ := hI
    obtain ⟨s40, hI⟩ := hI
    obtain ⟨s41, hI⟩ := hI
    obtain ⟨s42, hI⟩ := hI
    obtain ⟨s43, hI⟩ := hI
    obtain ⟨s44, hI⟩ := hI
    obtain ⟨s45, hI⟩ := hI
    obtain ⟨s46, hI⟩ := hI
    obtain ⟨s47, hI⟩ := hI
    obtain ⟨s48, hI⟩ := hI
    obtain ⟨rfl, hI⟩ := hI
    obtain ⟨F0, hI⟩ := hI
    obtain ⟨F1, hI⟩ := hI
    obtain ⟨F2, hI⟩ := hI
    obtain ⟨F3, hI⟩ := hI
    obtain ⟨F4, hI⟩ := hI
    obtain ⟨F5, hI⟩ := hI
    obtain ⟨F6, hI⟩ := hI
    obtain ⟨F7, hI⟩ := hI
    obtain ⟨F8, hI⟩ := hI
    obtain ⟨F9, hI⟩ := hI
    obtain ⟨F10, hI⟩ := hI
    obtain ⟨F11, hI⟩ := hI
    obtain ⟨F12, hI⟩ := hI
    obtain ⟨F13, hI⟩ := hI
    obtain ⟨F14, hI⟩ := hI
    obtain ⟨F15, hI⟩ := hI
    obtain ⟨F16, hI⟩ := hI
    obtain ⟨F17, hI⟩ := hI
    obtain ⟨F18, hI⟩ := hI
    obtain ⟨F19, hI⟩ := hI
    obtain ⟨F20, hI⟩ := hI
    obtain ⟨F21, hI⟩ := hI
    have F22 := hI; clear hI
    have hi' : i < 17 := hi
    clear hi
    rcases (by omega : i = 0 ∨ i = 1 ∨ i = 2 ∨ i = 3 ∨ i = 4 ∨ i = 5 ∨ i = 6 ∨ i = 7 ∨ i = 8 ∨ i = 9 ∨ i = 10 ∨ i = 11 ∨ i = 12 ∨ i = 13 ∨ i = 14 ∨ i = 15 ∨ i = 16) with rfl | rfl | rfl | rfl | rfl | rfl | rfl | rfl | rfl | rfl | rfl | rfl | rfl | rfl | rfl | rfl | rfl
    · simp only [List.getElem?_toArray, List.getElem?_cons_zero, Option.some.injEq] at ho
      subst ho
      obtain rfl := F21 (ln hn F22)
      refine wpOp_step rfl (fun K hK => ?_)
      go_simp
      refine hK _ _ ?_
      exact ⟨_, _, _, _, _, _, _, _, _, _, _, _, _, _, _, _, _, rfl, fun _ => rfl, lk F1, lk F2, lk F3, lk F4, lk F5, lk F6, lk F7, lk F8, lk F9, lk F10, lk F11, lk F12, lk F13, lk F14, lk F15, lk F16, F17, F18, F19, F20, fun h => F21 (lsf (by decide) h), fun h => la (F22 (ls (by decide) h))⟩
    · simp only [List.getElem?_toArray, List.getElem?_cons_zero, List.getElem?_cons_succ, Option.some.injEq] at ho
      subst ho
      obtain rfl := F0 (hd ⟨0, .data⟩ (by simp) rfl)
      refine wpOp_step rfl (fun K hK => ?_)
      go_simp
      refine hK _ _ ?_
      exact ⟨_, _, _, _, _, _, _, _, _, _, _, _, _, _, _, _, _, rfl, lk F0, fun _ => rfl, lk F2, lk F3, lk F4, lk F5, lk F6, lk F7, lk F8, lk F9, lk F10, lk F11, lk F12, lk F13, lk F14, lk F15, lk F16, F17, F18, F19, F20, fun h => F21 (lsf (by decide) h), fun h => la (F22 (ls (by decide) h))⟩
    · simp only [List.getElem?_toArray, List.getElem?_cons_zero, List.getElem?_cons_succ, Option.some.injEq] at ho
      subst ho
      obtain rfl := F1 (hd ⟨1, .guard⟩ (by simp) rfl)
      refine wpOp_step rfl (fun K hK => ?_)
      go_simp
      refine hK _ _ ?_
      exact ⟨_, _, _, _, _, _, _, _, _, _, _, _, _, _, _, _, _, rfl, lk F0, lk F1, fun _ => rfl, lk F3, lk F4, lk F5, lk F6, lk F7, lk F8, lk F9, lk F10, lk F11, lk F12, lk F13, lk F14, lk F15, lk F16, F17, F18, F19, F20, fun h => F21 (lsf (by decide) h), fun h => la (F22 (ls (by decide) h))⟩
    · simp only [List.getElem?_toArray, List.getElem?_cons_zero, List.getElem?_cons_succ, Option.some.injEq] at ho
      subst ho
      obtain rfl := F2 (hd ⟨2, .data⟩ (by simp) rfl)
      obtain rfl := F1 (hd ⟨1, .guard⟩ (by simp) rfl)
      have h0 := F18; have h1 := F19; have h2 := F20
      refine wpOp_step rfl (fun K hK => ?_)
      go_simp
      refine hK _ _ ?_
      exact ⟨_, _, _, _, _, _, _, _, _, _, _, _, _, _, _, _, _, rfl, lk F0, lk F1, lk F2, fun _ => rfl, lk F4, lk F5, lk F6, lk F7, lk F8, lk F9, lk F10, lk F11, lk F12, lk F13, lk F14, lk F15, lk F16, F17, F18, F19, F20, fun h => F21 (lsf (by decide) h), fun h => la (F22 (ls (by decide) h))⟩
    · simp only [List.getElem?_toArray, List.getElem?_cons_zero, List.getElem?_cons_succ, Option.some.injEq] at ho
      subst ho
      obtain rfl := F3 (hd ⟨3, .data⟩ (by simp) rfl)
      obtain rfl := F1 (hd ⟨1, .guard⟩ (by simp) rfl)
      refine wpOp_step rfl (fun K hK => ?_)
      go_simp
      refine hK _ _ ?_
      exact ⟨_, _, _, _, _, _, _, _, _, _, _, _, _, _, _, _, _, rfl, lk F0, lk F1, lk F2, lk F3, fun _ => rfl, lk F5, lk F6, lk F7, lk F8, lk F9, lk F10, lk F11, lk F12, lk F13, lk F14, lk F15, lk F16, F17, F18, F19, F20, fun h => F21 (lsf (by decide) h), fun h => la (F22 (ls (by decide) h))⟩
    · simp only [List.getElem?_toArray, List.getElem?_cons_zero, List.getElem?_cons_succ, Option.some.injEq] at ho
      subst ho
      obtain rfl := F1 (hd ⟨1, .data⟩ (by simp) rfl)
      obtain rfl := F4 (hd ⟨4, .data⟩ (by simp) rfl)
      refine wpOp_step rfl (fun K hK => ?_)
      go_simp
      refine hK _ _ ?_
      exact ⟨_, _, _, _, _, _, _, _, _, _, _, _, _, _, _, _, _, rfl, lk F0, lk F1, lk F2, lk F3, lk F4, fun _ => rfl, lk F6, lk F7, lk F8, lk F9, lk F10, lk F11, lk F12, lk F13, lk F14, lk F15, lk F16, F17, F18, F19, F20, fun h => F21 (lsf (by decide) h), fun h => la (F22 (ls (by decide) h))⟩
    · simp only [List.getElem?_toArray, List.getElem?_cons_zero, List.getElem?_cons_succ, Option.some.injEq] at ho
      subst ho
      obtain rfl := F5 (hd ⟨5, .data⟩ (by simp) rfl)
      refine wpOp_step rfl (fun K hK => ?_)
      go_simp
      refine hK _ _ ?_
      exact ⟨_, _, _, _, _, _, _, _, _, _, _, _, _, _, _, _, _, rfl, lk F0, lk F1, lk F2, lk F3, lk F4, lk F5, fun _ => rfl, lk F7, lk F8, lk F9, lk F10, lk F11, lk F12, lk F13, lk F14, lk F15, lk F16, F17, F18, F19, F20, fun h => F21 (lsf (by decide) h), fun h => la (F22 (ls (by decide) h))⟩
    · simp only [List.getElem?_toArray, List.getElem?_cons_zero, List.getElem?_cons_succ, Option.some.injEq] at ho
      subst ho
      obtain rfl := F6 (hd ⟨6, .guard⟩ (by simp) rfl)
      refine wpOp_step rfl (fun K hK => ?_)
      go_simp
      refine hK _ _ ?_
      exact ⟨_, _, _, _, _, _, _, _, _, _, _, _, _, _, _, _, _, rfl, lk F0, lk F1, lk F2, lk F3, lk F4, lk F5, lk F6, fun _ => rfl, lk F8, lk F9, lk F10, lk F11, lk F12, lk F13, lk F14, lk F15, lk F16, F17, F18, F19, F20, fun h => F21 (lsf (by decide) h), fun h => la (F22 (ls (by decide) h))⟩
    · simp only [List.getElem?_toArray, List.getElem?_cons_zero, List.getElem?_cons_succ, Option.some.injEq] at ho
      subst ho
      obtain rfl := F6 (hd ⟨6, .guard⟩ (by simp) rfl)
      refine wpOp_step rfl (fun K hK => ?_)
      go_simp
      refine hK _ _ ?_
      exact ⟨_, _, _, _, _, _, _, _, _, _, _, _, _, _, _, _, _, rfl, lk F0, lk F1, lk F2, lk F3, lk F4, lk F5, lk F6, lk F7, fun _ => rfl, lk F9, lk F10, lk F11, lk F12, lk F13, lk F14, lk F15, lk F16, F17, F18, F19, F20, fun h => F21 (lsf (by decide) h), fun h => la (F22 (ls (by decide) h))⟩
    · simp only [List.getElem?_toArray, List.getElem?_cons_zero, List.getElem?_cons_succ, Option.some.injEq] at ho
      subst ho
      obtain rfl := F6 (hd ⟨6, .guard⟩ (by simp) rfl)
      refine wpOp_step rfl (fun K hK => ?_)
      go_simp
      refine hK _ _ ?_
      exact ⟨_, _, _, _, _, _, _, _, _, _, _, _, _, _, _, _, _, rfl, lk F0, lk F1, lk F2, lk F3, lk F4, lk F5, lk F6, lk F7, lk F8, fun _ => rfl, lk F10, lk F11, lk F12, lk F13, lk F14, lk F15, lk F16, F17, F18, F19, F20, fun h => F21 (lsf (by decide) h), fun h => la (F22 (ls (by decide) h))⟩
    · simp only [List.getElem?_toArray, List.getElem?_cons_zero, List.getElem?_cons_succ, Option.some.injEq] at ho
      subst ho
      obtain rfl := F8 (hd ⟨8, .data⟩ (by simp) rfl)
      obtain rfl := F9 (hd ⟨9, .data⟩ (by simp) rfl)
      obtain rfl := F6 (hd ⟨6, .guard⟩ (by simp) rfl)
      refine wpOp_step rfl (fun K hK => ?_)
      go_simp
      refine hK _ _ ?_
      exact ⟨_, _, _, _, _, _, _, _, _, _, _, _, _, _, _, _, _, rfl, lk F0, lk F1, lk F2, lk F3, lk F4, lk F5, lk F6, lk F7, lk F8, lk F9, fun _ => rfl, lk F11, lk F12, lk F13, lk F14, lk F15, lk F16, F17, F18, F19, F20, fun h => F21 (lsf (by decide) h), fun h => la (F22 (ls (by decide) h))⟩
    · simp only [List.getElem?_toArray, List.getElem?_cons_zero, List.getElem?_cons_succ, Option.some.injEq] at ho
      subst ho
      obtain rfl := F10 (hd ⟨10, .data⟩ (by simp) rfl)
      obtain rfl := F6 (hd ⟨6, .guard⟩ (by simp) rfl)
      have h0 := Y0.out _ F17; have h1 := Y1.out _ F17; have h2 := Y2.out _ F17; have h3 := Y3.out _ F17; have h4 := Y4.out _ F17; have h5 := Y5.out _ F17
      refine wpOp_step rfl (fun K hK => ?_)
      go_simp
      refine hK _ _ ?_
      exact ⟨_, _, _, _, _, _, _, _, _, _, _, _, _, _, _, _, _, rfl, lk F0, lk F1, lk F2, lk F3, lk F4, lk F5, lk F6, lk F7, lk F8, lk F9, lk F10, fun _ => rfl, lk F12, lk F13, lk F14, lk F15, lk F16, F17, F18, F19, F20, fun h => F21 (lsf (by decide) h), fun h => la (F22 (ls (by decide) h))⟩
    · simp only [List.getElem?_toArray, List.getElem?_cons_zero, List.getElem?_cons_succ, Option.some.injEq] at ho
      subst ho
      obtain rfl := F7 (hd ⟨7, .data⟩ (by simp) rfl)
      obtain rfl := F11 (hd ⟨11, .data⟩ (by simp) rfl)
      obtain rfl := F6 (hd ⟨6, .guard⟩ (by simp) rfl)
      refine wpOp_step rfl (fun K hK => ?_)
      go_simp
      go_at_call 15
      refine (H1.out _ F17).mono ?_
      rintro e w' ⟨rfl, hb⟩
      refine hK _ _ ?_
      exact ⟨_, _, _, _, _, _, _, _, _, _, _, _, _, _, _, _, _, rfl, lk F0, lk F1, lk F2, lk F3, lk F4, lk F5, lk F6, lk F7, lk F8, lk F9, lk F10, lk F11, fun _ => rfl, lk F13, lk F14, lk F15, lk F16, bt F17 hb, cell_call F18 hb, cell_call F19 hb, cell_call F20 hb, fun h => F21 (lsf (by decide) h), fun h => la (F22 (ls (by decide) h))⟩
    · simp only [List.getElem?_toArray, List.getElem?_cons_zero, List.getElem?_cons_succ, Option.some.injEq] at ho
      subst ho
      obtain rfl := F6 (hd ⟨6, .guard⟩ (by simp) rfl)
      have h0 := F18; have h1 := F19; have h2 := F20
      refine wpOp_step rfl (fun K hK => ?_)
      go_simp
      refine hK _ _ ?_
      exact ⟨_, _, _, _, _, _, _, _, _, _, _, _, _, _, _, _, _, rfl, lk F0, lk F1, lk F2, lk F3, lk F4, lk F5, lk F6, lk F7, lk F8, lk F9, lk F10, lk F11, lk F12, fun _ => rfl, lk F14, lk F15, lk F16, F17, F18, F19, F20, fun h => F21 (lsf (by decide) h), fun h => la (F22 (ls (by decide) h))⟩
    · simp only [List.getElem?_toArray, List.getElem?_cons_zero, List.getElem?_cons_succ, Option.some.injEq] at ho
      subst ho
      obtain rfl := F12 (hd ⟨12, .data⟩ (by simp) rfl)
      obtain rfl := F13 (hd ⟨13, .data⟩ (by simp) rfl)
      obtain rfl := F6 (hd ⟨6, .guard⟩ (by simp) rfl)
      refine wpOp_step rfl (fun K hK => ?_)
      go_simp
      go_at_call 18
      refine (H2.out _ F17).mono ?_
      rintro e w' ⟨rfl, hb⟩
      refine hK _ _ ?_
      exact ⟨_, _, _, _, _, _, _, _, _, _, _, _, _, _, _, _, _, rfl, lk F0, lk F1, lk F2, lk F3, lk F4, lk F5, lk F6, lk F7, lk F8, lk F9, lk F10, lk F11, lk F12, lk F13, fun _ => rfl, lk F15, lk F16, bt F17 hb, cell_call F18 hb, cell_call F19 hb, cell_call F20 hb, fun h => F21 (lsf (by decide) h), fun h => la (F22 (ls (by decide) h))⟩
    · simp only [List.getElem?_toArray, List.getElem?_cons_zero, List.getElem?_cons_succ, Option.some.injEq] at ho
      subst ho
      obtain rfl := F6 (hd ⟨6, .data⟩ (by simp) rfl)
      obtain rfl := F14 (hd ⟨14, .data⟩ (by simp) rfl)
      refine wpOp_step rfl (fun K hK => ?_)
      go_simp
      refine hK _ _ ?_
      exact ⟨_, _, _, _, _, _, _, _, _, _, _, _, _, _, _, _, _, rfl, lk F0, lk F1, lk F2, lk F3, lk F4, lk F5, lk F6, lk F7, lk F8, lk F9, lk F10, lk F11, lk F12, lk F13, lk F14, fun _ => rfl, lk F16, F17, F18, F19, F20, fun h => F21 (lsf (by decide) h), fun h => la (F22 (ls (by decide) h))⟩
    · simp only [List.getElem?_toArray, List.getElem?_cons_zero, List.getElem?_cons_succ, Option.some.injEq] at ho
      subst ho
      obtain rfl := F15 (hd ⟨15, .data⟩ (by simp) rfl)
      refine wpOp_step rfl (fun K hK => ?_)
      go_simp
      refine hK _ _ ?_
      exact ⟨_, _, _, _, _, _, _, _, _, _, _, _, _, _, _, _, _, rfl, lk F0, lk F1, lk F2, lk F3, lk F4, lk F5, lk F6, lk F7, lk F8, lk F9, lk F10, lk F11, lk F12, lk F13, lk F14, lk F15, fun _ => rfl, F17, F18, F19, F20, fun h => lx hn h, fun _ => la (hd ⟨0, .phase⟩ (by simp) rfl)⟩
  · intro listed A w hall hI
    unfold RtI at hI
    obtain ⟨s10, hI⟩ := hI
    obtain ⟨s33, hI⟩ := hI
    obtain ⟨s34, hI⟩ := hI
    obtain ⟨s35, hI⟩ := hI
    obtain ⟨s36, hI⟩ := hI
    obtain ⟨s37, hI⟩ := hI
    obtain ⟨s38, hI⟩ := hI
    obtain ⟨s39, hI⟩ := hI
    obtain ⟨s40, hI⟩ := hI
    obtain ⟨s41, hI⟩ := hI
    obtain ⟨s42, hI⟩ := hI
    obtain ⟨s43, hI⟩ := hI
    obtain ⟨s44, hI⟩ := hI
    obtain ⟨s45, hI⟩ := hI
    obtain ⟨s46, hI⟩ := hI
    obtain ⟨s47, hI⟩ := hI
    obtain ⟨s48, hI⟩ := hI
    obtain ⟨rfl, hI⟩ := hI
    obtain ⟨F0, hI⟩ := hI
    obtain ⟨F1, hI⟩ := hI
    obtain ⟨F2, hI⟩ := hI
    obtain ⟨F3, hI⟩ := hI
    obtain ⟨F4, hI⟩ := hI
    obtain ⟨F5, hI⟩ := hI
    obtain ⟨F6, hI⟩ := hI
    obtain ⟨F7, hI⟩ := hI
    obtain ⟨F8, hI⟩ := hI
    obtain ⟨F9, hI⟩ := hI
    obtain ⟨F10, hI⟩ := hI
    obtain ⟨F11, hI⟩ := hI
    obtain ⟨F12, hI⟩ := hI
    obtain ⟨F13, hI⟩ := hI
    obtain ⟨F14, hI⟩ := hI
    obtain ⟨F15, hI⟩ := hI
    obtain ⟨F16, hI⟩ := hI
    obtain ⟨F17, hI⟩ := hI
    obtain ⟨F18, hI⟩ := hI
    obtain ⟨F19, hI⟩ := hI
    obtain ⟨F20, hI⟩ := hI
    obtain ⟨F21, hI⟩ := hI
    have F22 := hI; clear hI
    obtain rfl := F0 (hall 0 (by decide))
    obtain rfl := F1 (hall 1 (by decide))
    obtain rfl := F2 (hall 2 (by decide))
    obtain rfl := F3 (hall 3 (by decide))
    obtain rfl := F4 (hall 4 (by decide))
    obtain rfl := F5 (hall 5 (by decide))
    obtain rfl := F6 (hall 6 (by decide))
    obtain rfl := F7 (hall 7 (by decide))
    obtain rfl := F8 (hall 8 (by decide))
    obtain rfl := F9 (hall 9 (by decide))
    obtain rfl := F10 (hall 10 (by decide))
    obtain rfl := F11 (hall 11 (by decide))
    obtain rfl := F12 (hall 12 (by decide))
    obtain rfl := F13 (hall 13 (by decide))
    obtain rfl := F14 (hall 14 (by decide))
    obtain rfl := F15 (hall 15 (by decide))
    obtain rfl := F16 (hall 16 (by decide))
    have HB := F17
    have Q0 := F18
    have Q1 := F19
    have Q2 := F20
    have Q4 := F22
    exact hQ _ trivial HB
def okR (z : Bool) (o n : Nat) : Bool := if n = 1 then (cntR z o).2.1 else if n = 0 then (cntR z o).1 else (cntR z o).2.2
theorem okR_fin : ∀ (z : Bool) (o : Fin 4) (p : Fin 3), okR z o.1 p.1 = inC (p.1, p.1) (cz z o.1) := by decide
theorem okR_min (z : Bool) (o n : Nat) : okR z o n = okR z o (min n 2) := by
  unfold okR
  by_cases h1 : n = 1
  · subst h1; rfl
  · by_cases h0 : n = 0
    · subst h0; rfl
    · rw [if_neg h1, if_neg h0, if_neg (by omega), if_neg (by omega)]
theorem okR_is (t : TT) (ht : GT t) (n : Nat) : okR (zT t) t.o n = inC (min n 2, min n 2) (cT t) := by
  rw [okR_min]
  exact okR_fin (zT t) (f4 ht.2) ⟨min n 2, by omega⟩
theorem okR_fits (t : TT) (ht : GT t) (ks : List TT) : (okR (zT t) t.o ks.length && ks.all (fun k => decide (t.k.i ≠ 0) && lieB k.k t.k)) = fits ks t := by
  unfold fits
  rw [okR_is t ht]
  by_cases h : t.k.i = 0
  · cases ks with
    | nil => rfl
    | cons k ks =>
      have e : zT t = true := by rw [zT, h]; rfl
      have e2 : inC (min (k :: ks).length 2, min (k :: ks).length 2) (cT t) = false := by
        rw [cT, e]
        show (decide (0 ≤ min (k :: ks).length 2) && decide (min (k :: ks).length 2 ≤ 0)) = false
        rw [List.length_cons, Bool.and_eq_false_iff]
        right
        exact decide_eq_false (by omega)
      rw [e2, Bool.false_and, Bool.false_and]
  · have e : decide (t.k.i ≠ 0) = true := decide_eq_true h
    simp only [e, Bool.true_and]
theorem matchR_any (kindT : It → TT) (t : TT) (ht : GT t) (Al : Option Addr) (nl kl : Nat) (Ai : Option Addr) (ni ka : Nat) (xs : List It) (hn : xs.length = ni) (hni : ni ≤ 1048576) (w : World) (hI : IRow6 w Ai xs) (hg : ∀ x ∈ xs, GT (kindT x))
    (HK : Hid (∀ x ∈ xs, ∀ w1, Below w.heap.size w w1 → Calls Tryd.prog 15 #[.slice Al nl kl, .agg #[.int .i64 x.m, .int .i64 x.k, .int .i64 x.n, .int .i64 x.c, .string x.s, .bool x.b]] w1 fun e w' => e = .returned (.agg #[.int .i64 ((kindT x).k.i : Nat), .string (ba' (kindT x).k.n), .int .i64 ((kindT x).o : Nat)]) ∧ Below w1.heap.size w1 w')) :
    Calls Tryd.prog 14 #[.slice Al nl kl, .agg #[.int .i64 (t.k.i : Nat), .string (ba' t.k.n), .int .i64 (t.o : Nat)], .slice Ai ni ka] w fun e w' => e = .returned (.bool (fits (xs.map kindT) t)) ∧ Below w.heap.size w w' := by
  obtain ⟨⟨zi, zn⟩, zo⟩ := t
  have hres := okR_fits ⟨⟨zi, zn⟩, zo⟩ ht (xs.map kindT)
  rw [List.length_map, hn, List.all_map] at hres
  obtain ⟨res, hr0⟩ : ∃ r, fits (xs.map kindT) ⟨⟨zi, zn⟩, zo⟩ = r := ⟨_, rfl⟩
  rw [hr0] at hres ⊢
  have HRES : Hid ((okR (decide (zi = 0)) zo ni && xs.all (fun x => decide (zi ≠ 0) && lieB (kindT x).k ⟨zi, zn⟩)) = res) := Lib.hid hres
  have HC := Lib.hid (fun w1 : World => counts_ref zi zo ht.2 (ba' zn) w1)
  have HLIE : Hid (∀ (k : TT), GT k → ∀ w1 : World, Calls Tryd.prog 18 #[.agg #[.int .i64 (k.k.i : Nat), .string (ba' k.k.n), .int .i64 (k.o : Nat)], .agg #[.int .i64 (zi : Nat), .string (ba' zn), .int .i64 (zo : Nat)]] w1 fun e w' => e = .returned (.bool (lieB k.k ⟨zi, zn⟩)) ∧ Below w1.heap.size w1 w') := Lib.hid fun k hk w1 => lies_ref k ⟨⟨zi, zn⟩, zo⟩ hk ht w1
  have HII := Lib.hid hI; have HXS := Lib.hid hn; have HG := Lib.hid hg
  obtain ⟨⟨va, vb, vc⟩, hcn⟩ : ∃ c, cntR (decide (zi = 0)) zo = c := ⟨_, rfl⟩
  rw [hcn] at HC
  have HCN := Lib.hid hcn
  clear hres hr0 hI hn hg hcn ht
  simp only at HC ⊢
  by_cases h0 : ni = 0
  · subst h0
    have g0 : decide (((0 : Nat) : Int) = 0) = true := by decide
    go_enter Tryd.func14, Tryd.ntmps14
    go_wp2_with fail
    refine (HC.out _).mono ?_
    rintro e w1 ⟨rfl, hb1⟩
    have e0 : w1.cell? ⟨w.heap.size, 0, none⟩ = some (.int .i64 (zi : Nat)) := ((bcell hb1).1 _ _ (by simp)).trans (by go_simp)
    have e1 : w1.cell? ⟨w.heap.size, 1, none⟩ = some (.string (ba' zn)) := ((bcell hb1).1 _ _ (by simp)).trans (by go_simp)
    have e2 : w1.cell? ⟨w.heap.size, 2, none⟩ = some (.int .i64 (zo : Nat)) := ((bcell hb1).1 _ _ (by simp)).trans (by go_simp)
    have ez : w.heap.size < w1.heap.size := zz hb1 (by simp)
    have HB1 := Lib.hid (bt (ba (Below.refl w.heap.size w)) hb1)
    clear hb1
    go_wp2
    go_loopw [10, 11] (fun s10 s11 wx => ∃ (j : Nat) (o : Bool), s10 = .bool o ∧ s11 = .int .i64 (j : Nat) ∧ j ≤ 0 ∧ Hid (o = (okR (decide (zi = 0)) zo 0 && (xs.take j).all (fun x => decide (zi ≠ 0) && lieB (kindT x).k ⟨zi, zn⟩))) ∧ wx.cell? ⟨w.heap.size, 0, none⟩ = some (.int .i64 (zi : Nat)) ∧ wx.cell? ⟨w.heap.size, 1, none⟩ = some (.string (ba' zn)) ∧ wx.cell? ⟨w.heap.size, 2, none⟩ = some (.int .i64 (zo : Nat)) ∧ w.heap.size < wx.heap.size ∧ Below w.heap.size w wx) (fun _ s11 _ => 0 - (intOf s11).toNat)
    case atStart => exact ⟨0, va, rfl, rfl, Nat.zero_le _, Lib.hid (by rw [List.take_zero, List.all_nil, Bool.and_true]; show va = okR _ _ 0; unfold okR; rw [if_neg (by decide), if_pos rfl, HCN.out]), e0, e1, e2, ez, HB1.out⟩
    case round =>
      obtain ⟨j, o, rfl, rfl, hj, HO, p0, p1, p2, pz, hB⟩ := hrel
      have HBJ := Lib.hid hB
      by_cases hlt : j < 0
      · have q1 : decide ((j : Int) < (0 : Int)) = true := decide_eq_true (by omega)
        have q1' : decide (j < 0) = true := decide_eq_true hlt
        obtain ⟨x, hx⟩ : ∃ x, xs[j]? = some x := ⟨_, List.getElem?_eq_getElem (by rw [HXS.out]; exact hlt)⟩
        have hxm := List.mem_of_getElem? hx
        obtain ⟨ad, rfl, hb0, d0, d1, d2, d3, d4, d5⟩ := HII.out j x hx
        have hw : wrap64 ((j : Int) + 1) = (j : Int) + 1 := by unfold wrap64; omega
        have HKX := Lib.hid (HK.out x hxm)
        have HLI := Lib.hid (HLIE.out (kindT x) (HG.out x hxm))
        obtain ⟨r, hr⟩ : ∃ r, lieB (kindT x).k ⟨zi, zn⟩ = r := ⟨_, rfl⟩
        rw [hr] at HLI
        have hnx : (xs.take (j + 1)).all (fun x => decide (zi ≠ 0) && lieB (kindT x).k ⟨zi, zn⟩) = ((xs.take j).all (fun x => decide (zi ≠ 0) && lieB (kindT x).k ⟨zi, zn⟩) && (decide (zi ≠ 0) && r)) := by
          rw [List.take_add_one, hx, List.all_append]
          simp only [Option.toList_some, List.all_cons, List.all_nil, Bool.and_true, hr]
        have HNX := Lib.hid hnx
        obtain ⟨⟨⟨ki, kn⟩, ko⟩, hke⟩ : ∃ k, kindT x = k := ⟨_, rfl⟩
        rw [hke] at HKX HLI
        obtain ⟨xm, xk, xn, xc, xs', xb⟩ := x
        simp only at d0 d1 d2 d3 d4 d5 HKX HLI
        clear hr hnx hxm hx hke hB
        cases o with
        | false =>
          have HN2 : Hid (false = (okR (decide (zi = 0)) zo 0 && (xs.take (j + 1)).all (fun x => decide (zi ≠ 0) && lieB (kindT x).k ⟨zi, zn⟩))) := Lib.hid (by rw [HNX.out, ← Bool.and_assoc, ← HO.out]; rfl)
          go_wp2
          refine Rf_region ad Al (w.heap.size) 0 ka nl kl j zi zo ki ko zn kn xm xk xn xc xs' xb r wr (X10 := rfl) (Below.refl _ _) p0 p1 p2 (Lib.hid fun w1 h1 => ((bt HBJ.out h1).cell hb0).trans d0) (Lib.hid fun w1 h1 => ((bt HBJ.out h1).cell (show ({ block := (ad.add (j * 6)).block, off := (ad.add (j * 6)).off + 1 } : Addr).block < w.heap.size from hb0)).trans d1) (Lib.hid fun w1 h1 => ((bt HBJ.out h1).cell (show ({ block := (ad.add (j * 6)).block, off := (ad.add (j * 6)).off + 2 } : Addr).block < w.heap.size from hb0)).trans d2) (Lib.hid fun w1 h1 => ((bt HBJ.out h1).cell (show ({ block := (ad.add (j * 6)).block, off := (ad.add (j * 6)).off + 3 } : Addr).block < w.heap.size from hb0)).trans d3) (Lib.hid fun w1 h1 => ((bt HBJ.out h1).cell (show ({ block := (ad.add (j * 6)).block, off := (ad.add (j * 6)).off + 4 } : Addr).block < w.heap.size from hb0)).trans d4) (Lib.hid fun w1 h1 => ((bt HBJ.out h1).cell (show ({ block := (ad.add (j * 6)).block, off := (ad.add (j * 6)).off + 5 } : Addr).block < w.heap.size from hb0)).trans d5) hlt q1' (Lib.hid fun w1 h1 => HKX.out w1 (bt HBJ.out h1)) (Lib.hid fun w1 h1 => HLI.out w1)  ?_
          intro w5 _ hb5
          have u0 := cell_call p0 hb5
          have u1 := cell_call p1 hb5
          have u2 := cell_call p2 hb5
          have uz := zz hb5 pz
          have HB5 := Lib.hid (bt HBJ.out hb5)
          clear p0 p1 p2 hb5 d0 d1 d2 d3 d4 d5 HNX
          go_wp2
          go_roundw
          case measure => simp [intOf]; omega
          case rel => exact ⟨j + 1, false, rfl, by simp, by omega, HN2, u0, u1, u2, uz, HB5.out⟩
        | true =>
          by_cases hz0 : zi = 0
          · have HN2 : Hid (false = (okR (decide (zi = 0)) zo 0 && (xs.take (j + 1)).all (fun x => decide (zi ≠ 0) && lieB (kindT x).k ⟨zi, zn⟩))) := Lib.hid (by rw [HNX.out, show decide (zi ≠ 0) = false from decide_eq_false (fun h => h hz0), Bool.false_and, Bool.and_false, Bool.and_false])
            have p0z : wr.cell? ⟨w.heap.size, 0, none⟩ = some (.int .i64 0) := by rw [p0, hz0]; rfl
            clear hz0
            go_wp2
            refine Rz_region ad Al (w.heap.size) 0 ka nl kl j zi zo ki ko zn kn xm xk xn xc xs' xb r wr (X10 := rfl) (Below.refl _ _) p0z p1 p2 (Lib.hid fun w1 h1 => ((bt HBJ.out h1).cell hb0).trans d0) (Lib.hid fun w1 h1 => ((bt HBJ.out h1).cell (show ({ block := (ad.add (j * 6)).block, off := (ad.add (j * 6)).off + 1 } : Addr).block < w.heap.size from hb0)).trans d1) (Lib.hid fun w1 h1 => ((bt HBJ.out h1).cell (show ({ block := (ad.add (j * 6)).block, off := (ad.add (j * 6)).off + 2 } : Addr).block < w.heap.size from hb0)).trans d2) (Lib.hid fun w1 h1 => ((bt HBJ.out h1).cell (show ({ block := (ad.add (j * 6)).block, off := (ad.add (j * 6)).off + 3 } : Addr).block < w.heap.size from hb0)).trans d3) (Lib.hid fun w1 h1 => ((bt HBJ.out h1).cell (show ({ block := (ad.add (j * 6)).block, off := (ad.add (j * 6)).off + 4 } : Addr).block < w.heap.size from hb0)).trans d4) (Lib.hid fun w1 h1 => ((bt HBJ.out h1).cell (show ({ block := (ad.add (j * 6)).block, off := (ad.add (j * 6)).off + 5 } : Addr).block < w.heap.size from hb0)).trans d5) hlt q1' (Lib.hid fun w1 h1 => HKX.out w1 (bt HBJ.out h1)) (Lib.hid fun w1 h1 => HLI.out w1)  ?_
            intro w5 _ hb5
            have u0 := cell_call p0 hb5
            have u1 := cell_call p1 hb5
            have u2 := cell_call p2 hb5
            have uz := zz hb5 pz
            have HB5 := Lib.hid (bt HBJ.out hb5)
            clear p0 p0z p1 p2 hb5 d0 d1 d2 d3 d4 d5 HNX
            go_wp2
            go_roundw
            case measure => simp [intOf]; omega
            case rel => exact ⟨j + 1, false, rfl, by simp, by omega, HN2, u0, u1, u2, uz, HB5.out⟩
          · have HN2 : Hid (r = (okR (decide (zi = 0)) zo 0 && (xs.take (j + 1)).all (fun x => decide (zi ≠ 0) && lieB (kindT x).k ⟨zi, zn⟩))) := Lib.hid (by rw [HNX.out, show decide (zi ≠ 0) = true from decide_eq_true hz0, ← Bool.and_assoc]; have h := HO.out; rw [show decide (zi ≠ 0) = true from decide_eq_true hz0] at h; rw [← h]; simp)
            have ht1 : ((zi : Int) != 0) = true := by simpa using hz0
            have ht2 : (zi = 0) = False := by simpa using hz0
            go_wp2
            refine Rt_region ad Al (w.heap.size) 0 ka nl kl j zi zo ki ko zn kn xm xk xn xc xs' xb r wr (X10 := rfl) (Below.refl _ _) p0 p1 p2 (Lib.hid fun w1 h1 => ((bt HBJ.out h1).cell hb0).trans d0) (Lib.hid fun w1 h1 => ((bt HBJ.out h1).cell (show ({ block := (ad.add (j * 6)).block, off := (ad.add (j * 6)).off + 1 } : Addr).block < w.heap.size from hb0)).trans d1) (Lib.hid fun w1 h1 => ((bt HBJ.out h1).cell (show ({ block := (ad.add (j * 6)).block, off := (ad.add (j * 6)).off + 2 } : Addr).block < w.heap.size from hb0)).trans d2) (Lib.hid fun w1 h1 => ((bt HBJ.out h1).cell (show ({ block := (ad.add (j * 6)).block, off := (ad.add (j * 6)).off + 3 } : Addr).block < w.heap.size from hb0)).trans d3) (Lib.hid fun w1 h1 => ((bt HBJ.out h1).cell (show ({ block := (ad.add (j * 6)).block, off := (ad.add (j * 6)).off + 4 } : Addr).block < w.heap.size from hb0)).trans d4) (Lib.hid fun w1 h1 => ((bt HBJ.out h1).cell (show ({ block := (ad.add (j * 6)).block, off := (ad.add (j * 6)).off + 5 } : Addr).block < w.heap.size from hb0)).trans d5) hlt q1' (Lib.hid fun w1 h1 => HKX.out w1 (bt HBJ.out h1)) (Lib.hid fun w1 h1 => HLI.out w1) hz0 ht1 ht2 ?_
            intro w5 _ hb5
            have u0 := cell_call p0 hb5
            have u1 := cell_call p1 hb5
            have u2 := cell_call p2 hb5
            have uz := zz hb5 pz
            have HB5 := Lib.hid (bt HBJ.out hb5)
            clear p0 p1 p2 hb5 d0 d1 d2 d3 d4 d5 HNX hz0 ht1 ht2
            go_wp2
            go_roundw
            case measure => simp [intOf]; omega
            case rel => exact ⟨j + 1, r, rfl, by simp, by omega, HN2, u0, u1, u2, uz, HB5.out⟩
      · have q1 : decide ((j : Int) < (0 : Int)) = false := decide_eq_false (by omega)
        have q1' : decide (j < 0) = false := decide_eq_false hlt
        have hro : o = res := by
          have h := HO.out
          rw [List.take_of_length_le (by rw [HXS.out]; omega)] at h
          exact h.trans HRES.out
        subst hro
        go_wp2
        go_ret
        exact ⟨rfl, HBJ.out⟩

  · by_cases h1 : ni = 1
    · subst h1
      go_enter Tryd.func14, Tryd.ntmps14
      go_wp2_with fail
      refine (HC.out _).mono ?_
      rintro e w1 ⟨rfl, hb1⟩
      have e0 : w1.cell? ⟨w.heap.size, 0, none⟩ = some (.int .i64 (zi : Nat)) := ((bcell hb1).1 _ _ (by simp)).trans (by go_simp)
      have e1 : w1.cell? ⟨w.heap.size, 1, none⟩ = some (.string (ba' zn)) := ((bcell hb1).1 _ _ (by simp)).trans (by go_simp)
      have e2 : w1.cell? ⟨w.heap.size, 2, none⟩ = some (.int .i64 (zo : Nat)) := ((bcell hb1).1 _ _ (by simp)).trans (by go_simp)
      have ez : w.heap.size < w1.heap.size := zz hb1 (by simp)
      have HB1 := Lib.hid (bt (ba (Below.refl w.heap.size w)) hb1)
      clear hb1
      go_wp2
      go_loopw [10, 11] (fun s10 s11 wx => ∃ (j : Nat) (o : Bool), s10 = .bool o ∧ s11 = .int .i64 (j : Nat) ∧ j ≤ 1 ∧ Hid (o = (okR (decide (zi = 0)) zo 1 && (xs.take j).all (fun x => decide (zi ≠ 0) && lieB (kindT x).k ⟨zi, zn⟩))) ∧ wx.cell? ⟨w.heap.size, 0, none⟩ = some (.int .i64 (zi : Nat)) ∧ wx.cell? ⟨w.heap.size, 1, none⟩ = some (.string (ba' zn)) ∧ wx.cell? ⟨w.heap.size, 2, none⟩ = some (.int .i64 (zo : Nat)) ∧ w.heap.size < wx.heap.size ∧ Below w.heap.size w wx) (fun _ s11 _ => 1 - (intOf s11).toNat)
      case atStart => exact ⟨0, vb, rfl, rfl, Nat.zero_le _, Lib.hid (by rw [List.take_zero, List.all_nil, Bool.and_true]; show vb = okR _ _ 1; unfold okR; rw [if_pos rfl, HCN.out]), e0, e1, e2, ez, HB1.out⟩
      case round =>
        obtain ⟨j, o, rfl, rfl, hj, HO, p0, p1, p2, pz, hB⟩ := hrel
        have HBJ := Lib.hid hB
        by_cases hlt : j < 1
        · have q1 : decide ((j : Int) < (1 : Int)) = true := decide_eq_true (by omega)
          have q1' : decide (j < 1) = true := decide_eq_true hlt
          obtain ⟨x, hx⟩ : ∃ x, xs[j]? = some x := ⟨_, List.getElem?_eq_getElem (by rw [HXS.out]; exact hlt)⟩
          have hxm := List.mem_of_getElem? hx
          obtain ⟨ad, rfl, hb0, d0, d1, d2, d3, d4, d5⟩ := HII.out j x hx
          have hw : wrap64 ((j : Int) + 1) = (j : Int) + 1 := by unfold wrap64; omega
          have HKX := Lib.hid (HK.out x hxm)
          have HLI := Lib.hid (HLIE.out (kindT x) (HG.out x hxm))
          obtain ⟨r, hr⟩ : ∃ r, lieB (kindT x).k ⟨zi, zn⟩ = r := ⟨_, rfl⟩
          rw [hr] at HLI
          have hnx : (xs.take (j + 1)).all (fun x => decide (zi ≠ 0) && lieB (kindT x).k ⟨zi, zn⟩) = ((xs.take j).all (fun x => decide (zi ≠ 0) && lieB (kindT x).k ⟨zi, zn⟩) && (decide (zi ≠ 0) && r)) := by
            rw [List.take_add_one, hx, List.all_append]
            simp only [Option.toList_some, List.all_cons, List.all_nil, Bool.and_true, hr]
          have HNX := Lib.hid hnx
          obtain ⟨⟨⟨ki, kn⟩, ko⟩, hke⟩ : ∃ k, kindT x = k := ⟨_, rfl⟩
          rw [hke] at HKX HLI
          obtain ⟨xm, xk, xn, xc, xs', xb⟩ := x
          simp only at d0 d1 d2 d3 d4 d5 HKX HLI
          clear hr hnx hxm hx hke hB
          cases o with
          | false =>
            have HN2 : Hid (false = (okR (decide (zi = 0)) zo 1 && (xs.take (j + 1)).all (fun x => decide (zi ≠ 0) && lieB (kindT x).k ⟨zi, zn⟩))) := Lib.hid (by rw [HNX.out, ← Bool.and_assoc, ← HO.out]; rfl)
            go_wp2
            refine Rf_region ad Al (w.heap.size) 1 ka nl kl j zi zo ki ko zn kn xm xk xn xc xs' xb r wr (X10 := rfl) (Below.refl _ _) p0 p1 p2 (Lib.hid fun w1 h1 => ((bt HBJ.out h1).cell hb0).trans d0) (Lib.hid fun w1 h1 => ((bt HBJ.out h1).cell (show ({ block := (ad.add (j * 6)).block, off := (ad.add (j * 6)).off + 1 } : Addr).block < w.heap.size from hb0)).trans d1) (Lib.hid fun w1 h1 => ((bt HBJ.out h1).cell (show ({ block := (ad.add (j * 6)).block, off := (ad.add (j * 6)).off + 2 } : Addr).block < w.heap.size from hb0)).trans d2) (Lib.hid fun w1 h1 => ((bt HBJ.out h1).cell (show ({ block := (ad.add (j * 6)).block, off := (ad.add (j * 6)).off + 3 } : Addr).block < w.heap.size from hb0)).trans d3) (Lib.hid fun w1 h1 => ((bt HBJ.out h1).cell (show ({ block := (ad.add (j * 6)).block, off := (ad.add (j * 6)).off + 4 } : Addr).block < w.heap.size from hb0)).trans d4) (Lib.hid fun w1 h1 => ((bt HBJ.out h1).cell (show ({ block := (ad.add (j * 6)).block, off := (ad.add (j * 6)).off + 5 } : Addr).block < w.heap.size from hb0)).trans d5) hlt q1' (Lib.hid fun w1 h1 => HKX.out w1 (bt HBJ.out h1)) (Lib.hid fun w1 h1 => HLI.out w1)  ?_
            intro w5 _ hb5
            have u0 := cell_call p0 hb5
            have u1 := cell_call p1 hb5
            have u2 := cell_call p2 hb5
            have uz := zz hb5 pz
            have HB5 := Lib.hid (bt HBJ.out hb5)
            clear p0 p1 p2 hb5 d0 d1 d2 d3 d4 d5 HNX
            go_wp2
            go_roundw
            case measure => simp [intOf]; omega
            case rel => exact ⟨j + 1, false, rfl, by simp, by omega, HN2, u0, u1, u2, uz, HB5.out⟩
          | true =>
            by_cases hz0 : zi = 0
            · have HN2 : Hid (false = (okR (decide (zi = 0)) zo 1 && (xs.take (j + 1)).all (fun x => decide (zi ≠ 0) && lieB (kindT x).k ⟨zi, zn⟩))) := Lib.hid (by rw [HNX.out, show decide (zi ≠ 0) = false from decide_eq_false (fun h => h hz0), Bool.false_and, Bool.and_false, Bool.and_false])
              have p0z : wr.cell? ⟨w.heap.size, 0, none⟩ = some (.int .i64 0) := by rw [p0, hz0]; rfl
              clear hz0
              go_wp2
              refine Rz_region ad Al (w.heap.size) 1 ka nl kl j zi zo ki ko zn kn xm xk xn xc xs' xb r wr (X10 := rfl) (Below.refl _ _) p0z p1 p2 (Lib.hid fun w1 h1 => ((bt HBJ.out h1).cell hb0).trans d0) (Lib.hid fun w1 h1 => ((bt HBJ.out h1).cell (show ({ block := (ad.add (j * 6)).block, off := (ad.add (j * 6)).off + 1 } : Addr).block < w.heap.size from hb0)).trans d1) (Lib.hid fun w1 h1 => ((bt HBJ.out h1).cell (show ({ block := (ad.add (j * 6)).block, off := (ad.add (j * 6)).off + 2 } : Addr).block < w.heap.size from hb0)).trans d2) (Lib.hid fun w1 h1 => ((bt HBJ.out h1).cell (show ({ block := (ad.add (j * 6)).block, off := (ad.add (j * 6)).off + 3 } : Addr).block < w.heap.size from hb0)).trans d3) (Lib.hid fun w1 h1 => ((bt HBJ.out h1).cell (show ({ block := (ad.add (j * 6)).block, off := (ad.add (j * 6)).off + 4 } : Addr).block < w.heap.size from hb0)).trans d4) (Lib.hid fun w1 h1 => ((bt HBJ.out h1).cell (show ({ block := (ad.add (j * 6)).block, off := (ad.add (j * 6)).off + 5 } : Addr).block < w.heap.size from hb0)).trans d5) hlt q1' (Lib.hid fun w1 h1 => HKX.out w1 (bt HBJ.out h1)) (Lib.hid fun w1 h1 => HLI.out w1)  ?_
              intro w5 _ hb5
              have u0 := cell_call p0 hb5
              have u1 := cell_call p1 hb5
              have u2 := cell_call p2 hb5
              have uz := zz hb5 pz
              have HB5 := Lib.hid (bt HBJ.out hb5)
              clear p0 p0z p1 p2 hb5 d0 d1 d2 d3 d4 d5 HNX
              go_wp2
              go_roundw
              case measure => simp [intOf]; omega
              case rel => exact ⟨j + 1, false, rfl, by simp, by omega, HN2, u0, u1, u2, uz, HB5.out⟩
            · have HN2 : Hid (r = (okR (decide (zi = 0)) zo 1 && (xs.take (j + 1)).all (fun x => decide (zi ≠ 0) && lieB (kindT x).k ⟨zi, zn⟩))) := Lib.hid (by rw [HNX.out, show decide (zi ≠ 0) = true from decide_eq_true hz0, ← Bool.and_assoc]; have h := HO.out; rw [show decide (zi ≠ 0) = true from decide_eq_true hz0] at h; rw [← h]; simp)
              have ht1 : ((zi : Int) != 0) = true := by simpa using hz0
              have ht2 : (zi = 0) = False := by simpa using hz0
              go_wp2
              refine Rt_region ad Al (w.heap.size) 1 ka nl kl j zi zo ki ko zn kn xm xk xn xc xs' xb r wr (X10 := rfl) (Below.refl _ _) p0 p1 p2 (Lib.hid fun w1 h1 => ((bt HBJ.out h1).cell hb0).trans d0) (Lib.hid fun w1 h1 => ((bt HBJ.out h1).cell (show ({ block := (ad.add (j * 6)).block, off := (ad.add (j * 6)).off + 1 } : Addr).block < w.heap.size from hb0)).trans d1) (Lib.hid fun w1 h1 => ((bt HBJ.out h1).cell (show ({ block := (ad.add (j * 6)).block, off := (ad.add (j * 6)).off + 2 } : Addr).block < w.heap.size from hb0)).trans d2) (Lib.hid fun w1 h1 => ((bt HBJ.out h1).cell (show ({ block := (ad.add (j * 6)).block, off := (ad.add (j * 6)).off + 3 } : Addr).block < w.heap.size from hb0)).trans d3) (Lib.hid fun w1 h1 => ((bt HBJ.out h1).cell (show ({ block := (ad.add (j * 6)).block, off := (ad.add (j * 6)).off + 4 } : Addr).block < w.heap.size from hb0)).trans d4) (Lib.hid fun w1 h1 => ((bt HBJ.out h1).cell (show ({ block := (ad.add (j * 6)).block, off := (ad.add (j * 6)).off + 5 } : Addr).block < w.heap.size from hb0)).trans d5) hlt q1' (Lib.hid fun w1 h1 => HKX.out w1 (bt HBJ.out h1)) (Lib.hid fun w1 h1 => HLI.out w1) hz0 ht1 ht2 ?_
              intro w5 _ hb5
              have u0 := cell_call p0 hb5
              have u1 := cell_call p1 hb5
              have u2 := cell_call p2 hb5
              have uz := zz hb5 pz
              have HB5 := Lib.hid (bt HBJ.out hb5)
              clear p0 p1 p2 hb5 d0 d1 d2 d3 d4 d5 HNX hz0 ht1 ht2
              go_wp2
              go_roundw
              case measure => simp [intOf]; omega
              case rel => exact ⟨j + 1, r, rfl, by simp, by omega, HN2, u0, u1, u2, uz, HB5.out⟩
        · have q1 : decide ((j : Int) < (1 : Int)) = false := decide_eq_false (by omega)
          have q1' : decide (j < 1) = false := decide_eq_false hlt
          have hro : o = res := by
            have h := HO.out
            rw [List.take_of_length_le (by rw [HXS.out]; omega)] at h
            exact h.trans HRES.out
          subst hro
          go_wp2
          go_ret
          exact ⟨rfl, HBJ.out⟩

    · have g0 : ((ni : Int) == 0) = false := by simpa using h0
      have g1 : ((ni : Int) == 1) = false := by simp; omega
      have g2 : (ni = 0) = False := by simpa using h0
      have g3 : (ni = 1) = False := by simpa using h1
      have H0 := Lib.hid h0; have H1 := Lib.hid h1
      clear h0 h1
      go_enter Tryd.func14, Tryd.ntmps14
      go_wp2_with fail
      refine (HC.out _).mono ?_
      rintro e w1 ⟨rfl, hb1⟩
      have e0 : w1.cell? ⟨w.heap.size, 0, none⟩ = some (.int .i64 (zi : Nat)) := ((bcell hb1).1 _ _ (by simp)).trans (by go_simp)
      have e1 : w1.cell? ⟨w.heap.size, 1, none⟩ = some (.string (ba' zn)) := ((bcell hb1).1 _ _ (by simp)).trans (by go_simp)
      have e2 : w1.cell? ⟨w.heap.size, 2, none⟩ = some (.int .i64 (zo : Nat)) := ((bcell hb1).1 _ _ (by simp)).trans (by go_simp)
      have ez : w.heap.size < w1.heap.size := zz hb1 (by simp)
      have HB1 := Lib.hid (bt (ba (Below.refl w.heap.size w)) hb1)
      clear hb1
      go_wp2
      go_loopw [10, 11] (fun s10 s11 wx => ∃ (j : Nat) (o : Bool), s10 = .bool o ∧ s11 = .int .i64 (j : Nat) ∧ j ≤ ni ∧ Hid (o = (okR (decide (zi = 0)) zo ni && (xs.take j).all (fun x => decide (zi ≠ 0) && lieB (kindT x).k ⟨zi, zn⟩))) ∧ wx.cell? ⟨w.heap.size, 0, none⟩ = some (.int .i64 (zi : Nat)) ∧ wx.cell? ⟨w.heap.size, 1, none⟩ = some (.string (ba' zn)) ∧ wx.cell? ⟨w.heap.size, 2, none⟩ = some (.int .i64 (zo : Nat)) ∧ w.heap.size < wx.heap.size ∧ Below w.heap.size w wx) (fun _ s11 _ => ni - (intOf s11).toNat)
      case atStart => exact ⟨0, vc, rfl, rfl, Nat.zero_le _, Lib.hid (by rw [List.take_zero, List.all_nil, Bool.and_true]; unfold okR; rw [if_neg H1.out, if_neg H0.out, HCN.out]), e0, e1, e2, ez, HB1.out⟩
      case round =>
        obtain ⟨j, o, rfl, rfl, hj, HO, p0, p1, p2, pz, hB⟩ := hrel
        have HBJ := Lib.hid hB
        by_cases hlt : j < ni
        · have q1 : decide ((j : Int) < (ni : Int)) = true := decide_eq_true (by omega)
          have q1' : decide (j < ni) = true := decide_eq_true hlt
          obtain ⟨x, hx⟩ : ∃ x, xs[j]? = some x := ⟨_, List.getElem?_eq_getElem (by rw [HXS.out]; exact hlt)⟩
          have hxm := List.mem_of_getElem? hx
          obtain ⟨ad, rfl, hb0, d0, d1, d2, d3, d4, d5⟩ := HII.out j x hx
          have hw : wrap64 ((j : Int) + 1) = (j : Int) + 1 := by unfold wrap64; omega
          have HKX := Lib.hid (HK.out x hxm)
          have HLI := Lib.hid (HLIE.out (kindT x) (HG.out x hxm))
          obtain ⟨r, hr⟩ : ∃ r, lieB (kindT x).k ⟨zi, zn⟩ = r := ⟨_, rfl⟩
          rw [hr] at HLI
          have hnx : (xs.take (j + 1)).all (fun x => decide (zi ≠ 0) && lieB (kindT x).k ⟨zi, zn⟩) = ((xs.take j).all (fun x => decide (zi ≠ 0) && lieB (kindT x).k ⟨zi, zn⟩) && (decide (zi ≠ 0) && r)) := by
            rw [List.take_add_one, hx, List.all_append]
            simp only [Option.toList_some, List.all_cons, List.all_nil, Bool.and_true, hr]
          have HNX := Lib.hid hnx
          obtain ⟨⟨⟨ki, kn⟩, ko⟩, hke⟩ : ∃ k, kindT x = k := ⟨_, rfl⟩
          rw [hke] at HKX HLI
          obtain ⟨xm, xk, xn, xc, xs', xb⟩ := x
          simp only at d0 d1 d2 d3 d4 d5 HKX HLI
          clear hr hnx hxm hx hke hB
          cases o with
          | false =>
            have HN2 : Hid (false = (okR (decide (zi = 0)) zo ni && (xs.take (j + 1)).all (fun x => decide (zi ≠ 0) && lieB (kindT x).k ⟨zi, zn⟩))) := Lib.hid (by rw [HNX.out, ← Bool.and_assoc, ← HO.out]; rfl)
            go_wp2
            refine Rf_region ad Al (w.heap.size) ni ka nl kl j zi zo ki ko zn kn xm xk xn xc xs' xb r wr (X10 := rfl) (Below.refl _ _) p0 p1 p2 (Lib.hid fun w1 h1 => ((bt HBJ.out h1).cell hb0).trans d0) (Lib.hid fun w1 h1 => ((bt HBJ.out h1).cell (show ({ block := (ad.add (j * 6)).block, off := (ad.add (j * 6)).off + 1 } : Addr).block < w.heap.size from hb0)).trans d1) (Lib.hid fun w1 h1 => ((bt HBJ.out h1).cell (show ({ block := (ad.add (j * 6)).block, off := (ad.add (j * 6)).off + 2 } : Addr).block < w.heap.size from hb0)).trans d2) (Lib.hid fun w1 h1 => ((bt HBJ.out h1).cell (show ({ block := (ad.add (j * 6)).block, off := (ad.add (j * 6)).off + 3 } : Addr).block < w.heap.size from hb0)).trans d3) (Lib.hid fun w1 h1 => ((bt HBJ.out h1).cell (show ({ block := (ad.add (j * 6)).block, off := (ad.add (j * 6)).off + 4 } : Addr).block < w.heap.size from hb0)).trans d4) (Lib.hid fun w1 h1 => ((bt HBJ.out h1).cell (show ({ block := (ad.add (j * 6)).block, off := (ad.add (j * 6)).off + 5 } : Addr).block < w.heap.size from hb0)).trans d5) hlt q1' (Lib.hid fun w1 h1 => HKX.out w1 (bt HBJ.out h1)) (Lib.hid fun w1 h1 => HLI.out w1)  ?_
            intro w5 _ hb5
            have u0 := cell_call p0 hb5
            have u1 := cell_call p1 hb5
            have u2 := cell_call p2 hb5
            have uz := zz hb5 pz
            have HB5 := Lib.hid (bt HBJ.out hb5)
            clear p0 p1 p2 hb5 d0 d1 d2 d3 d4 d5 HNX
            go_wp2
            go_roundw
            case measure => simp [intOf]; omega
            case rel => exact ⟨j + 1, false, rfl, by simp, by omega, HN2, u0, u1, u2, uz, HB5.out⟩
          | true =>
            by_cases hz0 : zi = 0
            · have HN2 : Hid (false = (okR (decide (zi = 0)) zo ni && (xs.take (j + 1)).all (fun x => decide (zi ≠ 0) && lieB (kindT x).k ⟨zi, zn⟩))) := Lib.hid (by rw [HNX.out, show decide (zi ≠ 0) = false from decide_eq_false (fun h => h hz0), Bool.false_and, Bool.and_false, Bool.and_false])
              have p0z : wr.cell? ⟨w.heap.size, 0, none⟩ = some (.int .i64 0) := by rw [p0, hz0]; rfl
              clear hz0
              go_wp2
              refine Rz_region ad Al (w.heap.size) ni ka nl kl j zi zo ki ko zn kn xm xk xn xc xs' xb r wr (X10 := rfl) (Below.refl _ _) p0z p1 p2 (Lib.hid fun w1 h1 => ((bt HBJ.out h1).cell hb0).trans d0) (Lib.hid fun w1 h1 => ((bt HBJ.out h1).cell (show ({ block := (ad.add (j * 6)).block, off := (ad.add (j * 6)).off + 1 } : Addr).block < w.heap.size from hb0)).trans d1) (Lib.hid fun w1 h1 => ((bt HBJ.out h1).cell (show ({ block := (ad.add (j * 6)).block, off := (ad.add (j * 6)).off + 2 } : Addr).block < w.heap.size from hb0)).trans d2) (Lib.hid fun w1 h1 => ((bt HBJ.out h1).cell (show ({ block := (ad.add (j * 6)).block, off := (ad.add (j * 6)).off + 3 } : Addr).block < w.heap.size from hb0)).trans d3) (Lib.hid fun w1 h1 => ((bt HBJ.out h1).cell (show ({ block := (ad.add (j * 6)).block, off := (ad.add (j * 6)).off + 4 } : Addr).block < w.heap.size from hb0)).trans d4) (Lib.hid fun w1 h1 => ((bt HBJ.out h1).cell (show ({ block := (ad.add (j * 6)).block, off := (ad.add (j * 6)).off + 5 } : Addr).block < w.heap.size from hb0)).trans d5) hlt q1' (Lib.hid fun w1 h1 => HKX.out w1 (bt HBJ.out h1)) (Lib.hid fun w1 h1 => HLI.out w1)  ?_
              intro w5 _ hb5
              have u0 := cell_call p0 hb5
              have u1 := cell_call p1 hb5
              have u2 := cell_call p2 hb5
              have uz := zz hb5 pz
              have HB5 := Lib.hid (bt HBJ.out hb5)
              clear p0 p0z p1 p2 hb5 d0 d1 d2 d3 d4 d5 HNX
              go_wp2
              go_roundw
              case measure => simp [intOf]; omega
              case rel => exact ⟨j + 1, false, rfl, by simp, by omega, HN2, u0, u1, u2, uz, HB5.out⟩
            · have HN2 : Hid (r = (okR (decide (zi = 0)) zo ni && (xs.take (j + 1)).all (fun x => decide (zi ≠ 0) && lieB (kindT x).k ⟨zi, zn⟩))) := Lib.hid (by rw [HNX.out, show decide (zi ≠ 0) = true from decide_eq_true hz0, ← Bool.and_assoc]; have h := HO.out; rw [show decide (zi ≠ 0) = true from decide_eq_true hz0] at h; rw [← h]; simp)
              have ht1 : ((zi : Int) != 0) = true := by simpa using hz0
              have ht2 : (zi = 0) = False := by simpa using hz0
              go_wp2
              refine Rt_region ad Al (w.heap.size) ni ka nl kl j zi zo ki ko zn kn xm xk xn xc xs' xb r wr (X10 := rfl) (Below.refl _ _) p0 p1 p2 (Lib.hid fun w1 h1 => ((bt HBJ.out h1).cell hb0).trans d0) (Lib.hid fun w1 h1 => ((bt HBJ.out h1).cell (show ({ block := (ad.add (j * 6)).block, off := (ad.add (j * 6)).off + 1 } : Addr).block < w.heap.size from hb0)).trans d1) (Lib.hid fun w1 h1 => ((bt HBJ.out h1).cell (show ({ block := (ad.add (j * 6)).block, off := (ad.add (j * 6)).off + 2 } : Addr).block < w.heap.size from hb0)).trans d2) (Lib.hid fun w1 h1 => ((bt HBJ.out h1).cell (show ({ block := (ad.add (j * 6)).block, off := (ad.add (j * 6)).off + 3 } : Addr).block < w.heap.size from hb0)).trans d3) (Lib.hid fun w1 h1 => ((bt HBJ.out h1).cell (show ({ block := (ad.add (j * 6)).block, off := (ad.add (j * 6)).off + 4 } : Addr).block < w.heap.size from hb0)).trans d4) (Lib.hid fun w1 h1 => ((bt HBJ.out h1).cell (show ({ block := (ad.add (j * 6)).block, off := (ad.add (j * 6)).off + 5 } : Addr).block < w.heap.size from hb0)).trans d5) hlt q1' (Lib.hid fun w1 h1 => HKX.out w1 (bt HBJ.out h1)) (Lib.hid fun w1 h1 => HLI.out w1) hz0 ht1 ht2 ?_
              intro w5 _ hb5
              have u0 := cell_call p0 hb5
              have u1 := cell_call p1 hb5
              have u2 := cell_call p2 hb5
              have uz := zz hb5 pz
              have HB5 := Lib.hid (bt HBJ.out hb5)
              clear p0 p1 p2 hb5 d0 d1 d2 d3 d4 d5 HNX hz0 ht1 ht2
              go_wp2
              go_roundw
              case measure => simp [intOf]; omega
              case rel => exact ⟨j + 1, r, rfl, by simp, by omega, HN2, u0, u1, u2, uz, HB5.out⟩
        · have q1 : decide ((j : Int) < (ni : Int)) = false := decide_eq_false (by omega)
          have q1' : decide (j < ni) = false := decide_eq_false hlt
          have hro : o = res := by
            have h := HO.out
            rw [List.take_of_length_le (by rw [HXS.out]; omega)] at h
            exact h.trans HRES.out
          subst hro
          go_wp2
          go_ret
          exact ⟨rfl, HBJ.out⟩

end Go.Proofs.YtjpopmgnhgancaaDoor
