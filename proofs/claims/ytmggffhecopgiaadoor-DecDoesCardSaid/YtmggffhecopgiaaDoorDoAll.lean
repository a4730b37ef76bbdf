/- What the reference does with two right numbers. No condition beyond what the theorems state. -/
import Derived.Test.YtmggffhecopgiaaDoorDoWalk
import Derived.Deep.RegionHeld3
import Derived.Deep.Cut
namespace Go.Proofs
open Go.Shelf Go.RowKit Go.Proofs.Wide Go.Proofs.Dig
set_option maxRecDepth 100000
set_option maxHeartbeats 8000000
section
variable {w0 w7 : World} {h g g' : Nat} {nr nm : Bool} {r mm : List Int} {A7 A8 : Option Addr} {c7 c8 : Nat}
def EndJ (w0 : World) (h : Nat) (nr : Bool) (r : List Int) (s19 : Value) (wx : World) : Prop := ∃ (g : Nat) (A8 : Option Addr) (c8 : Nat), s19 = .pointer (some ⟨g, 0, none⟩) ∧ g ≠ h ∧ Own wx g (.bool nr) (.slice A8 r.length c8) ∧ Rd wx A8 r ∧ r.length ≤ c8 ∧ c8 ≤ 9223372036854775807 ∧ Own wx h (.bool false) (.slice none 0 0) ∧ Below w0.heap.size w0 wx
theorem end_a (K8 : Own w7 h (.bool false) (.slice none 0 0)) (hr : Rd w7 A7 r) (hl : r.length ≤ c7) (hc : c7 ≤ 9223372036854775807) (B : Below w0.heap.size w0 w7) :
    EndJ w0 h nr r (.pointer (some ⟨w7.heap.size, 0, none⟩)) ((w7.alloc (.cells #[.bool nr, .slice A7 r.length c7] 34)).alloc (.cells #[.bool nm, .slice A8 mm.length c8] 34)) :=
  ⟨_, _, _, rfl, fun e => absurd K8.lt (by omega), (Own.new_at rfl).alloc _, hr.call (ba (ba (Below.refl _ _))), hl, hc, (K8.alloc _).alloc _, ba (ba B)⟩
theorem end_b (K8 : Own w7 h (.bool false) (.slice none 0 0)) (hr : Rd w7 A7 r) (hl : r.length ≤ c7) (hc : c7 ≤ 9223372036854775807) (B : Below w0.heap.size w0 w7) :
    EndJ w0 h nr r (.pointer (some ⟨w7.heap.size + 1, 0, none⟩)) ((w7.alloc (.cells #[.bool nm, .slice A8 mm.length c8] 34)).alloc (.cells #[.bool nr, .slice A7 r.length c7] 34)) :=
  ⟨_, _, _, rfl, fun e => absurd K8.lt (by omega), Own.new_at (by simp), hr.call (ba (ba (Below.refl _ _))), hl, hc, (K8.alloc _).alloc _, ba (ba B)⟩
theorem end_c (K8 : Own w7 h (.bool false) (.slice none 0 0)) (K : Own w7 g (.bool false) (.slice none 0 0)) (n1 : g ≠ h) (p1 : w0.heap.size ≤ g) (hr : Rd w7 A7 r) (hl : r.length ≤ c7) (hc : c7 ≤ 9223372036854775807) (B : Below w0.heap.size w0 w7) :
    EndJ w0 h nr r (.pointer (some ⟨g, 0, none⟩)) (((w7.setCell ⟨g, 0, none⟩ (.bool nr)).setCell ⟨g, 1, none⟩ (.slice A7 r.length c7)).alloc (.cells #[.bool nm, .slice A8 mm.length c8] 34)) :=
  ⟨_, _, _, rfl, n1, (K.store _ _).alloc _, (rd_store hr K _ _).call (ba (Below.refl _ _)), hl, hc, ((K8.set_ n1).set_ n1).alloc _, ba (bs (bs B p1) p1)⟩
theorem end_d (K8 : Own w7 h (.bool false) (.slice none 0 0)) (K : Own w7 g (.bool false) (.slice none 0 0)) (n1 : g ≠ h) (p1 : w0.heap.size ≤ g) (hr : Rd w7 A7 r) (hl : r.length ≤ c7) (hc : c7 ≤ 9223372036854775807) (B : Below w0.heap.size w0 w7) :
    EndJ w0 h nr r (.pointer (some ⟨w7.heap.size, 0, none⟩)) (((w7.setCell ⟨g, 0, none⟩ (.bool nm)).setCell ⟨g, 1, none⟩ (.slice A8 mm.length c8)).alloc (.cells #[.bool nr, .slice A7 r.length c7] 34)) :=
  ⟨_, _, _, rfl, fun e => absurd K8.lt (by omega), Own.new_at (by simp), (rd_store hr K _ _).call (ba (Below.refl _ _)), hl, hc, ((K8.set_ n1).set_ n1).alloc _, ba (bs (bs B p1) p1)⟩
theorem end_e (K8 : Own w7 h (.bool false) (.slice none 0 0)) (K : Own w7 g (.bool false) (.slice none 0 0)) (K' : Own w7 g' (.bool false) (.slice none 0 0)) (n1 : g ≠ h) (n2 : g' ≠ h) (n3 : g' ≠ g) (p1 : w0.heap.size ≤ g) (p2 : w0.heap.size ≤ g') (hr : Rd w7 A7 r) (hl : r.length ≤ c7) (hc : c7 ≤ 9223372036854775807) (B : Below w0.heap.size w0 w7) :
    EndJ w0 h nr r (.pointer (some ⟨g, 0, none⟩)) ((((w7.setCell ⟨g, 0, none⟩ (.bool nr)).setCell ⟨g, 1, none⟩ (.slice A7 r.length c7)).setCell ⟨g', 0, none⟩ (.bool nm)).setCell ⟨g', 1, none⟩ (.slice A8 mm.length c8)) :=
  ⟨_, _, _, rfl, n1, ((K.store _ _).set_ n3).set_ n3, rd_store (rd_store hr K _ _) ((K'.set_ (Ne.symm n3)).set_ (Ne.symm n3)) _ _, hl, hc, (((K8.set_ n1).set_ n1).set_ n2).set_ n2, bs (bs (bs (bs B p1) p1) p2) p2⟩
end
theorem do_3 (n m k l s : Int) (na nb : Bool) (a b x y : List Int) (w0 : World) (qn qk qe : Int) (qb : Bool) (hs : max k l = s) (hk : 0 ≤ s - k ∧ s - k ≤ 9) (hl : 0 ≤ s - l ∧ s - l ≤ 9) (hkl : 0 ≤ k ∧ k ≤ 9 ∧ 0 ≤ l ∧ l ≤ 9) (nr nm : Bool) (r mm x3 : List Int) (hm : m ≠ 0) (HA : Hid (OfC n na a)) (HB : Hid (OfC m nb b)) (HX : Hid (UpC na a x (s - k))) (HY : Hid (UpC nb b y (s - l))) (HU : Hid (UpC na a x3 (9 + l - k))) (HS : Hid (DivC na nb x3 b nr r nm mm)) (HF : Hid (FitC nr r 9 qn qk qb)) (hq : (qb = true ∧ qe = 0) ∨ (qb = false ∧ qn = 0 ∧ qk = 0 ∧ qe = 53)) :
    Calls Tryd.prog 24 #[.int .i64 3, .int .i64 n, .int .i64 k, .int .i64 m, .int .i64 l] w0 fun e w' => e = .returned (.tuple #[.int .i64 qn, .int .i64 qk, .int .i64 qe]) ∧ Below w0.heap.size w0 w' := by
  have ws1 : IntKind.i64.wrap (s - k) = s - k := by rw [IntKind.wrap_i64]; omega
  have ws2 : IntKind.i64.wrap (s - l) = s - l := by rw [IntKind.wrap_i64]; omega
  have gm : (m == 0) = false := by simpa using hm
  have gm2 : decide (m = 0) = false := by simpa using hm
  have ws3 : IntKind.i64.wrap (9 + l) = 9 + l := by rw [IntKind.wrap_i64]; omega
  have ws4 : IntKind.i64.wrap (9 + l - k) = 9 + l - k := by rw [IntKind.wrap_i64]; omega
  go_enter Tryd.func24, Tryd.ntmps24
  go_wp2_with fail
  refine (HA.out _).mono ?_
  rintro e w1 ⟨A1, c1, rfl, hr1, hl1, hc1, hbw1⟩
  have Bw1 : Below w0.heap.size w0 w1 := (by repeat (with_reducible (first | exact Below.refl _ _ | assumption | apply ba | apply bd | apply bdr | (refine bs ?_ (by first | assumption | (simp; done) | (simp; omega))) | (refine bt ?_ (by assumption)))))
  have z1 := Bw1.size
  go_wp2_with fail
  refine (HB.out _).mono ?_
  rintro e w2 ⟨A2, c2, rfl, hr2, hl2, hc2, hbw2⟩
  have Tw2 : Below w1.heap.size w1 w2 := (by repeat (with_reducible (first | exact Below.refl _ _ | assumption | apply ba | apply bd | apply bdr | (refine bs ?_ (by first | assumption | (simp; done) | (simp; omega))) | (refine bt ?_ (by assumption)))))
  have Bw2 : Below w0.heap.size w0 w2 := (by repeat (with_reducible (first | exact Below.refl _ _ | assumption | apply ba | apply bd | apply bdr | (refine bs ?_ (by first | assumption | (simp; done) | (simp; omega))) | (refine bt ?_ (by assumption)))))
  have O3 : Own w2 w1.heap.size (.bool na) (.slice A1 a.length c1) := Own.call (Own.new_at rfl) hbw2
  have ra := hr1.call Tw2
  obtain ⟨_, _, _, _⟩ := id O3
  have z2 := Tw2.size
  have y2 := O3.lt
  go_wp2_with fail
  refine (HX.out _ _ _ (ra.call (by repeat (with_reducible (first | exact Below.refl _ _ | assumption | apply ba | apply bd | apply bdr | (refine bs ?_ (by first | assumption | (simp; done) | (simp; omega))) | (refine bt ?_ (by assumption)))))) hl1 hc1).mono ?_
  rintro e w3 ⟨A3, c3, rfl, hr3, hl3, hc3, hbw3⟩
  have Tw3 : Below w2.heap.size w2 w3 := (by repeat (with_reducible (first | exact Below.refl _ _ | assumption | apply ba | apply bd | apply bdr | (refine bs ?_ (by first | assumption | (simp; done) | (simp; omega))) | (refine bt ?_ (by assumption)))))
  have Bw3 : Below w0.heap.size w0 w3 := (by repeat (with_reducible (first | exact Below.refl _ _ | assumption | apply ba | apply bd | apply bdr | (refine bs ?_ (by first | assumption | (simp; done) | (simp; omega))) | (refine bt ?_ (by assumption)))))
  have P3 := O3.call Tw3
  have O4 : Own w3 w2.heap.size (.bool nb) (.slice A2 b.length c2) := Own.call (Own.new_at rfl) hbw3
  have rb := hr2.call Tw3
  have ra3 := ra.call Tw3
  obtain ⟨_, _, _, _⟩ := id P3
  obtain ⟨_, _, _, _⟩ := id O4
  have z3 := Tw3.size
  have y31 := P3.lt
  have y32 := O4.lt
  clear O3 ra
  go_wp2_with fail
  refine (HY.out _ _ _ (rb.call (by repeat (with_reducible (first | exact Below.refl _ _ | assumption | apply ba | apply bd | apply bdr | (refine bs ?_ (by first | assumption | (simp; done) | (simp; omega))) | (refine bt ?_ (by assumption)))))) hl2 hc2).mono ?_
  rintro e w4 ⟨A4, c4, rfl, hr4, hl4, hc4, hbw4⟩
  have Tw4 : Below w3.heap.size w3 w4 := (by repeat (with_reducible (first | exact Below.refl _ _ | assumption | apply ba | apply bd | apply bdr | (refine bs ?_ (by first | assumption | (simp; done) | (simp; omega))) | (refine bt ?_ (by assumption)))))
  have Bw4 : Below w0.heap.size w0 w4 := (by repeat (with_reducible (first | exact Below.refl _ _ | assumption | apply ba | apply bd | apply bdr | (refine bs ?_ (by first | assumption | (simp; done) | (simp; omega))) | (refine bt ?_ (by assumption)))))
  have Q3 := P3.call Tw4
  have P4 := O4.call Tw4
  have O6 : Own w4 w3.heap.size (.bool na) (.slice A3 x.length c3) := Own.call (Own.new_at rfl) hbw4
  have rx := hr3.call Tw4
  have rb4 := rb.call Tw4
  have ra4 := ra3.call Tw4
  obtain ⟨_, _, _, _⟩ := id Q3
  obtain ⟨_, _, _, _⟩ := id P4
  obtain ⟨_, _, _, _⟩ := id O6
  have z4 := Tw4.size
  have y41 := Q3.lt
  have y42 := P4.lt
  have y43 := O6.lt
  clear P3 O4 rb ra3
  go_upto_region 21 with fail
  have yw := Bw4.size
  obtain ⟨W, hW⟩ : ∃ W, ((w4.alloc (.cells #[.bool nb, .slice A4 y.length c4] 34)).alloc (.cells #[.bool false, .slice none 0 0] 34)) = W := ⟨_, rfl⟩
  have V3 : Own W w1.heap.size (.bool na) (.slice A1 a.length c1) := by rw [← hW]; exact (Q3.alloc _).alloc _
  have V4 : Own W w2.heap.size (.bool nb) (.slice A2 b.length c2) := by rw [← hW]; exact (P4.alloc _).alloc _
  have V8 : Own W (w4.heap.size + 1) (.bool false) (.slice none 0 0) := by rw [← hW]; exact Own.new_at (by simp)
  have UW : Below w4.heap.size w4 W := by rw [← hW]; exact ba (ba (Below.refl _ _))
  have BW := bt Bw4 UW
  have xW := UW.size
  have yW := BW.size
  simp only [hW]
  have l3 := V3.lt
  have l4 := V4.lt
  have l8 := V8.lt
  obtain ⟨_, _, _, _⟩ := id V3
  obtain ⟨_, _, _, _⟩ := id V4
  obtain ⟨_, _, _, _⟩ := id V8
  have RA := ra4.call UW
  have RB := rb4.call UW
  clear hW Q3 P4 O6 rx hr1 hr2 hr3 hr4 ra4 rb4 hbw1 hbw2 hbw3 hbw4 Tw2 Tw3 Tw4 Bw1 Bw2 Bw3 Bw4 z1 z2 z3 z4 y2 y31 y32 y41 y42 y43 UW
  go_cut [19] (fun s19 wx => EndJ w0 (w4.heap.size + 1) nr r s19 wx)
  case first =>
    go_region_held3 (fun w' => w'.cell? ⟨w1.heap.size, 0, none⟩ = some (.bool na) ∧ w'.cell? ⟨w1.heap.size, 1, none⟩ = some (.slice A1 a.length c1) ∧ w'.cell? ⟨w2.heap.size, 0, none⟩ = some (.bool nb) ∧ w'.cell? ⟨w2.heap.size, 1, none⟩ = some (.slice A2 b.length c2) ∧ w'.cell? ⟨w4.heap.size + 1, 0, none⟩ = some (.bool false) ∧ w'.cell? ⟨w4.heap.size + 1, 1, none⟩ = some (.slice none 0 0) ∧ w'.frozen? ⟨w4.heap.size + 1, 0, none⟩ = false ∧ w'.frozen? ⟨w4.heap.size + 1, 1, none⟩ = false ∧ w1.heap.size < w'.heap.size ∧ w2.heap.size < w'.heap.size ∧ w4.heap.size + 1 < w'.heap.size ∧ Below W.heap.size W w' ∧ Below w0.heap.size w0 w')
      ((refine (fun hR : Below W.heap.size W _ => ⟨(V3.call hR).1, (V3.call hR).2.1, (V4.call hR).1, (V4.call hR).2.1, (V8.call hR).1, (V8.call hR).2.1, (V8.call hR).2.2.1, (V8.call hR).2.2.2, Nat.lt_of_lt_of_le l3 hR.size, Nat.lt_of_lt_of_le l4 hR.size, Nat.lt_of_lt_of_le l8 hR.size, hR, bt BW hR⟩) ?_; (repeat (with_reducible (first | exact Below.refl _ _ | assumption | apply ba | apply bd | apply bdr | (refine bs ?_ (by first | assumption | (simp; done) | (simp; omega) | omega)) | (refine bt ?_ (by assumption)))))))
      (first
        | (go_at_call 50; refine (HU.out _ _ _ (RA.call (by repeat (with_reducible (first | exact Below.refl _ _ | assumption | apply ba | apply bd | apply bdr | (refine bs ?_ (by first | assumption | (simp; done) | (simp; omega) | omega)) | (refine bt ?_ (by assumption)))))) hl1 hc1).mono ?_; rintro e w6 ⟨A6, c6, rfl, hr6, hl6, hc6, hb6⟩; have U6 : Below W.heap.size W w6 := (by repeat (with_reducible (first | exact Below.refl _ _ | assumption | apply ba | apply bd | apply bdr | (refine bs ?_ (by first | assumption | (simp; done) | (simp; omega) | omega)) | (refine bt ?_ (by assumption))))); have B6 : Below w0.heap.size w0 w6 := (by repeat (with_reducible (first | exact Below.refl _ _ | assumption | apply ba | apply bd | apply bdr | (refine bs ?_ (by first | assumption | (simp; done) | (simp; omega) | omega)) | (refine bt ?_ (by assumption))))); have x6 := U6.size; have y6 := B6.size; have hc6_0 := fun o => (bcell hb6).1 (w1.heap.size) o (by first | (with_reducible assumption) | (simp; done) | (simp; omega)); have hf6_0 := fun o => (bcell hb6).2 (w1.heap.size) o (by first | (with_reducible assumption) | (simp; done) | (simp; omega)); have z6_0 : w1.heap.size < w6.heap.size := zz hb6 (by first | (with_reducible assumption) | (simp; done) | (simp; omega)); have hc6_1 := fun o => (bcell hb6).1 (w2.heap.size) o (by first | (with_reducible assumption) | (simp; done) | (simp; omega)); have hf6_1 := fun o => (bcell hb6).2 (w2.heap.size) o (by first | (with_reducible assumption) | (simp; done) | (simp; omega)); have z6_1 : w2.heap.size < w6.heap.size := zz hb6 (by first | (with_reducible assumption) | (simp; done) | (simp; omega)); have hc6_2 := fun o => (bcell hb6).1 (w4.heap.size + 1) o (by first | (with_reducible assumption) | (simp; done) | (simp; omega)); have hf6_2 := fun o => (bcell hb6).2 (w4.heap.size + 1) o (by first | (with_reducible assumption) | (simp; done) | (simp; omega)); have z6_2 : w4.heap.size + 1 < w6.heap.size := zz hb6 (by first | (with_reducible assumption) | (simp; done) | (simp; omega)); (try (have gc6_0 := fun o => (bcell hb6).1 (W.heap.size) o (by first | (with_reducible assumption) | (simp; done) | (simp; omega)))); (try (have gf6_0 := fun o => (bcell hb6).2 (W.heap.size) o (by first | (with_reducible assumption) | (simp; done) | (simp; omega)))); (try (have gz6_0 : W.heap.size < w6.heap.size := zz hb6 (by first | (with_reducible assumption) | (simp; done) | (simp; omega)))); (try (have gc6_1 := fun o => (bcell hb6).1 (W.heap.size + 1) o (by first | (with_reducible assumption) | (simp; done) | (simp; omega)))); (try (have gf6_1 := fun o => (bcell hb6).2 (W.heap.size + 1) o (by first | (with_reducible assumption) | (simp; done) | (simp; omega)))); (try (have gz6_1 : W.heap.size + 1 < w6.heap.size := zz hb6 (by first | (with_reducible assumption) | (simp; done) | (simp; omega)))); have gn6_0 : w1.heap.size ≠ w6.heap.size := Nat.ne_of_lt z6_0; have gm6_0 : w6.heap.size ≠ w1.heap.size := Ne.symm gn6_0; have gn6_1 : w2.heap.size ≠ w6.heap.size := Nat.ne_of_lt z6_1; have gm6_1 : w6.heap.size ≠ w2.heap.size := Ne.symm gn6_1; have gn6_2 : w4.heap.size + 1 ≠ w6.heap.size := Nat.ne_of_lt z6_2; have gm6_2 : w6.heap.size ≠ w4.heap.size + 1 := Ne.symm gn6_2)
        | (go_at_call 53; refine (HS.out _ _ _ _ _ (hr6.call (by repeat (with_reducible (first | exact Below.refl _ _ | assumption | apply ba | apply bd | apply bdr | (refine bs ?_ (by first | assumption | (simp; done) | (simp; omega) | omega)) | (refine bt ?_ (by assumption)))))) hl6 hc6 (RB.call (by repeat (with_reducible (first | exact Below.refl _ _ | assumption | apply ba | apply bd | apply bdr | (refine bs ?_ (by first | assumption | (simp; done) | (simp; omega) | omega)) | (refine bt ?_ (by assumption)))))) hl2 hc2).mono ?_; rintro e w7 ⟨A7, c7, A8, c8, rfl, hr7, hl7, hc7, hr8, hl8, hc8, hb7⟩; have U7 : Below W.heap.size W w7 := (by repeat (with_reducible (first | exact Below.refl _ _ | assumption | apply ba | apply bd | apply bdr | (refine bs ?_ (by first | assumption | (simp; done) | (simp; omega) | omega)) | (refine bt ?_ (by assumption))))); have B7 : Below w0.heap.size w0 w7 := (by repeat (with_reducible (first | exact Below.refl _ _ | assumption | apply ba | apply bd | apply bdr | (refine bs ?_ (by first | assumption | (simp; done) | (simp; omega) | omega)) | (refine bt ?_ (by assumption))))); have x7 := U7.size; have y7 := B7.size; have hc7_0 := fun o => (bcell hb7).1 (w1.heap.size) o (by first | (with_reducible assumption) | (simp; done) | (simp; omega)); have hf7_0 := fun o => (bcell hb7).2 (w1.heap.size) o (by first | (with_reducible assumption) | (simp; done) | (simp; omega)); have z7_0 : w1.heap.size < w7.heap.size := zz hb7 (by first | (with_reducible assumption) | (simp; done) | (simp; omega)); have hc7_1 := fun o => (bcell hb7).1 (w2.heap.size) o (by first | (with_reducible assumption) | (simp; done) | (simp; omega)); have hf7_1 := fun o => (bcell hb7).2 (w2.heap.size) o (by first | (with_reducible assumption) | (simp; done) | (simp; omega)); have z7_1 : w2.heap.size < w7.heap.size := zz hb7 (by first | (with_reducible assumption) | (simp; done) | (simp; omega)); have hc7_2 := fun o => (bcell hb7).1 (w4.heap.size + 1) o (by first | (with_reducible assumption) | (simp; done) | (simp; omega)); have hf7_2 := fun o => (bcell hb7).2 (w4.heap.size + 1) o (by first | (with_reducible assumption) | (simp; done) | (simp; omega)); have z7_2 : w4.heap.size + 1 < w7.heap.size := zz hb7 (by first | (with_reducible assumption) | (simp; done) | (simp; omega)); (try (have gc7_0 := fun o => (bcell hb7).1 (W.heap.size) o (by first | (with_reducible assumption) | (simp; done) | (simp; omega)))); (try (have gf7_0 := fun o => (bcell hb7).2 (W.heap.size) o (by first | (with_reducible assumption) | (simp; done) | (simp; omega)))); (try (have gz7_0 : W.heap.size < w7.heap.size := zz hb7 (by first | (with_reducible assumption) | (simp; done) | (simp; omega)))); (try (have gc7_1 := fun o => (bcell hb7).1 (W.heap.size + 1) o (by first | (with_reducible assumption) | (simp; done) | (simp; omega)))); (try (have gf7_1 := fun o => (bcell hb7).2 (W.heap.size + 1) o (by first | (with_reducible assumption) | (simp; done) | (simp; omega)))); (try (have gz7_1 : W.heap.size + 1 < w7.heap.size := zz hb7 (by first | (with_reducible assumption) | (simp; done) | (simp; omega)))); (try (have gc7_2 := fun o => (bcell hb7).1 (w6.heap.size) o (by first | (with_reducible assumption) | (simp; done) | (simp; omega)))); (try (have gf7_2 := fun o => (bcell hb7).2 (w6.heap.size) o (by first | (with_reducible assumption) | (simp; done) | (simp; omega)))); (try (have gz7_2 : w6.heap.size < w7.heap.size := zz hb7 (by first | (with_reducible assumption) | (simp; done) | (simp; omega)))); (try (have gc7_3 := fun o => (bcell hb7).1 (w6.heap.size + 1) o (by first | (with_reducible assumption) | (simp; done) | (simp; omega)))); (try (have gf7_3 := fun o => (bcell hb7).2 (w6.heap.size + 1) o (by first | (with_reducible assumption) | (simp; done) | (simp; omega)))); (try (have gz7_3 : w6.heap.size + 1 < w7.heap.size := zz hb7 (by first | (with_reducible assumption) | (simp; done) | (simp; omega)))); have gn7_0 : w1.heap.size ≠ w7.heap.size := Nat.ne_of_lt z7_0; have gm7_0 : w7.heap.size ≠ w1.heap.size := Ne.symm gn7_0; have gn7_1 : w2.heap.size ≠ w7.heap.size := Nat.ne_of_lt z7_1; have gm7_1 : w7.heap.size ≠ w2.heap.size := Ne.symm gn7_1; have gn7_2 : w4.heap.size + 1 ≠ w7.heap.size := Nat.ne_of_lt z7_2; have gm7_2 : w7.heap.size ≠ w4.heap.size + 1 := Ne.symm gn7_2))
    all_goals (first | (go_wp2_with fail; go_meet) | go_meet)
    all_goals (try (have K1 : Own w7 W.heap.size (.bool false) (.slice none 0 0) := by ((with_reducible (refine Own.call ?_ hb7)); first | ((repeat (first | (focus ((with_reducible (refine Own.new_at ?_)); (first | (with_reducible rfl) | (simp; done)))) | (with_reducible (refine Own.alloc ?_ _)) | (with_reducible (refine Own.drew ?_)))); done) | ((repeat (with_reducible (first | refine Own.alloc ?_ _ | refine Own.drew ?_))); (with_reducible (refine Own.call ?_ hb6)); (repeat (first | (focus ((with_reducible (refine Own.new_at ?_)); (first | (with_reducible rfl) | (simp; done)))) | (with_reducible (refine Own.alloc ?_ _)) | (with_reducible (refine Own.drew ?_)))); done))))
    all_goals (try (have K2 : Own w7 (W.heap.size + 1) (.bool false) (.slice none 0 0) := by ((with_reducible (refine Own.call ?_ hb7)); first | ((repeat (first | (focus ((with_reducible (refine Own.new_at ?_)); (first | (with_reducible rfl) | (simp; done)))) | (with_reducible (refine Own.alloc ?_ _)) | (with_reducible (refine Own.drew ?_)))); done) | ((repeat (with_reducible (first | refine Own.alloc ?_ _ | refine Own.drew ?_))); (with_reducible (refine Own.call ?_ hb6)); (repeat (first | (focus ((with_reducible (refine Own.new_at ?_)); (first | (with_reducible rfl) | (simp; done)))) | (with_reducible (refine Own.alloc ?_ _)) | (with_reducible (refine Own.drew ?_)))); done))))
    all_goals (try (have K3 : Own w7 w6.heap.size (.bool false) (.slice none 0 0) := by ((with_reducible (refine Own.call ?_ hb7)); first | ((repeat (first | (focus ((with_reducible (refine Own.new_at ?_)); (first | (with_reducible rfl) | (simp; done)))) | (with_reducible (refine Own.alloc ?_ _)) | (with_reducible (refine Own.drew ?_)))); done) | ((repeat (with_reducible (first | refine Own.alloc ?_ _ | refine Own.drew ?_))); (with_reducible (refine Own.call ?_ hb6)); (repeat (first | (focus ((with_reducible (refine Own.new_at ?_)); (first | (with_reducible rfl) | (simp; done)))) | (with_reducible (refine Own.alloc ?_ _)) | (with_reducible (refine Own.drew ?_)))); done))))
    all_goals (try (have K4 : Own w7 (w6.heap.size + 1) (.bool false) (.slice none 0 0) := by ((with_reducible (refine Own.call ?_ hb7)); first | ((repeat (first | (focus ((with_reducible (refine Own.new_at ?_)); (first | (with_reducible rfl) | (simp; done)))) | (with_reducible (refine Own.alloc ?_ _)) | (with_reducible (refine Own.drew ?_)))); done) | ((repeat (with_reducible (first | refine Own.alloc ?_ _ | refine Own.drew ?_))); (with_reducible (refine Own.call ?_ hb6)); (repeat (first | (focus ((with_reducible (refine Own.new_at ?_)); (first | (with_reducible rfl) | (simp; done)))) | (with_reducible (refine Own.alloc ?_ _)) | (with_reducible (refine Own.drew ?_)))); done))))
    all_goals (have K8 := V8.call U7)
    all_goals (first | (with_reducible (exact end_a K8 hr7 hl7 hc7 B7)) | (with_reducible (exact end_b K8 hr7 hl7 hc7 B7)) | ((with_reducible (refine end_e K8 ?_ ?_ ?_ ?_ ?_ ?_ ?_ hr7 hl7 hc7 B7)) <;> first | (with_reducible assumption) | omega) | ((with_reducible (refine end_c K8 ?_ ?_ ?_ hr7 hl7 hc7 B7)) <;> first | (with_reducible assumption) | omega) | ((with_reducible (refine end_d K8 ?_ ?_ ?_ hr7 hl7 hc7 B7)) <;> first | (with_reducible assumption) | omega))
  case rest =>
    obtain ⟨g, A8, c8, rfl, hg, O8g, hr8, hl8, hc8, O8, B8⟩ := hcut
    obtain ⟨_, _, _, _⟩ := id O8g
    obtain ⟨_, _, _, _⟩ := id O8
    have yg := O8g.lt
    have y8 := O8.lt
    have hg2 : w4.heap.size + 1 ≠ g := Ne.symm hg
    go_wp2_with fail
    refine (HF.out _ _ _ (rd_store hr8 O8 _ _) hl8 hc8).mono ?_
    rintro e w9 ⟨rfl, hbw9⟩
    have Bw9 : Below w0.heap.size w0 w9 := (by repeat (with_reducible (first | exact Below.refl _ _ | assumption | apply ba | apply bd | apply bdr | (refine bs ?_ (by first | assumption | (simp; done) | (simp; omega))) | (refine bt ?_ (by assumption)))))
    rcases hq with ⟨rfl, rfl⟩ | ⟨rfl, rfl, rfl, rfl⟩
    · go_wp2
      exact bodyPost_ret (v := .tuple #[.int .i64 qn, .int .i64 qk, .int .i64 0]) (by simp [results, Tryd.results24, go_sem]) rfl ⟨rfl, Bw9⟩
    · go_wp2
      exact bodyPost_ret (v := .tuple #[.int .i64 0, .int .i64 0, .int .i64 53]) (by simp [results, Tryd.results24, go_sem]) rfl ⟨rfl, Bw9⟩
end Go.Proofs
namespace Go.Proofs
open Go.Shelf Go.RowKit Go.Proofs.Wide Go.Proofs.Dig
def TrimC (r : List Int) : Prop := ∀ (w : World) (A : Option Addr) (c : Nat), Rd w A r → r.length ≤ c → c ≤ 9223372036854775807 → Calls Tryd.prog 34 #[.slice A r.length c] w fun e w' => (∃ c1, e = .returned (.slice A r.length c1)) ∧ Below w.heap.size w w'
set_option maxRecDepth 100000 in
set_option maxHeartbeats 8000000 in
theorem cmp_core (n m k l s x0 : Int) (na nb nr : Bool) (a b x y r : List Int) (w0 : World) (hs : max k l = s) (hk : 0 ≤ s - k ∧ s - k ≤ 9) (hl : 0 ≤ s - l ∧ s - l ≤ 9) (HA : Hid (OfC n na a)) (HB : Hid (OfC m nb b)) (HX : Hid (UpC na a x (s - k))) (HY : Hid (UpC nb b y (s - l))) (HS : Hid (TwoC 51 na (!nb) x y nr r)) (HT : Hid (TrimC r)) (hx : (r = [] ∧ x0 = 0) ∨ (r ≠ [] ∧ nr = true ∧ x0 = -1) ∨ (r ≠ [] ∧ nr = false ∧ x0 = 1)) :
    Calls Tryd.prog 26 #[.int .i64 n, .int .i64 k, .int .i64 m, .int .i64 l] w0 fun e w' => e = .returned (.int .i64 x0) ∧ Below w0.heap.size w0 w' := by
  have ws1 : IntKind.i64.wrap (s - k) = s - k := by rw [IntKind.wrap_i64]; omega
  have ws2 : IntKind.i64.wrap (s - l) = s - l := by rw [IntKind.wrap_i64]; omega
  go_enter Tryd.func26, Tryd.ntmps26
  go_wp2_with fail
  refine (HB.out _).mono ?_
  rintro e w1 ⟨A1, c1, rfl, hr1, hl1, hc1, hbw1⟩
  have Bw1 : Below w0.heap.size w0 w1 := (by repeat (with_reducible (first | exact Below.refl _ _ | assumption | apply ba | apply bd | apply bdr | (refine bs ?_ (by first | assumption | (simp; done) | (simp; omega) | omega)) | (refine bt ?_ (by assumption)))))
  go_wp2_with fail
  refine (HY.out _ _ _ hr1 hl1 hc1).mono ?_
  rintro e w2 ⟨A2, c2, rfl, hr2, hl2, hc2, hbw2⟩
  have Bw2 : Below w0.heap.size w0 w2 := (by repeat (with_reducible (first | exact Below.refl _ _ | assumption | apply ba | apply bd | apply bdr | (refine bs ?_ (by first | assumption | (simp; done) | (simp; omega) | omega)) | (refine bt ?_ (by assumption)))))
  clear hbw1 hbw2 hr1 Bw1
  have y2 := Bw2.size
  go_upto_region 4 with fail
  go_cut [11] (fun s11 wx => ∃ (g : Nat) (A5 : Option Addr) (c5 : Nat), s11 = .pointer (some ⟨g, 0, none⟩) ∧ Own wx g (.bool nr) (.slice A5 r.length c5) ∧ Rd wx A5 r ∧ r.length ≤ c5 ∧ c5 ≤ 9223372036854775807 ∧ Below w0.heap.size w0 wx)
  case first =>
    go_region_held3 (fun w' => w'.cell? ⟨w2.heap.size, 0, none⟩ = some (.bool !nb) ∧ w'.cell? ⟨w2.heap.size, 1, none⟩ = some (.slice A2 y.length c2) ∧ w2.heap.size < w'.heap.size ∧ Below w2.heap.size w2 w' ∧ Below w0.heap.size w0 w')
      (first | (go_keep; done) | ((repeat' apply And.intro) <;> first | (with_reducible assumption) | (go_keep; done) | (refine Nat.lt_of_lt_of_le (by assumption) ?_; simp; done) | (simp; omega) | exact zz (by assumption) (by simp) | exact zz (by assumption) (by assumption) | repeat (with_reducible (first | exact Below.refl _ _ | assumption | apply ba | apply bd | apply bdr | (refine bs ?_ (by first | assumption | (simp; done) | (simp; omega) | omega)) | (refine bt ?_ (by assumption))))))
      (first
        | (go_at_call 13; refine (HA.out _).mono ?_; rintro e w3 ⟨A3, c3, rfl, hr3, hl3, hc3, hb3⟩; have T3 : Below w2.heap.size w2 w3 := (by repeat (with_reducible (first | exact Below.refl _ _ | assumption | apply ba | apply bd | apply bdr | (refine bs ?_ (by first | assumption | (simp; done) | (simp; omega) | omega)) | (refine bt ?_ (by assumption))))); have B3 : Below w0.heap.size w0 w3 := (by repeat (with_reducible (first | exact Below.refl _ _ | assumption | apply ba | apply bd | apply bdr | (refine bs ?_ (by first | assumption | (simp; done) | (simp; omega) | omega)) | (refine bt ?_ (by assumption))))); have x3 := T3.size; have y3 := B3.size; have hc3_0 := fun o => (bcell hb3).1 (w2.heap.size) o (by first | (with_reducible assumption) | (simp; done) | (simp; omega)); have hf3_0 := fun o => (bcell hb3).2 (w2.heap.size) o (by first | (with_reducible assumption) | (simp; done) | (simp; omega)); have z3_0 : w2.heap.size < w3.heap.size := zz hb3 (by first | (with_reducible assumption) | (simp; done) | (simp; omega)); (try (have gc3_0 := fun o => (bcell hb3).1 (w2.heap.size + 1) o (by first | (with_reducible assumption) | (simp; done) | (simp; omega)))); (try (have gf3_0 := fun o => (bcell hb3).2 (w2.heap.size + 1) o (by first | (with_reducible assumption) | (simp; done) | (simp; omega)))); (try (have gz3_0 : w2.heap.size + 1 < w3.heap.size := zz hb3 (by first | (with_reducible assumption) | (simp; done) | (simp; omega)))); have gn3_0 : w2.heap.size ≠ w3.heap.size := Nat.ne_of_lt z3_0; have gm3_0 : w3.heap.size ≠ w2.heap.size := Ne.symm gn3_0)
        | (go_at_call 50; refine (HX.out _ _ _ (hr3.call (by repeat (with_reducible (first | exact Below.refl _ _ | assumption | apply ba | apply bd | apply bdr | (refine bs ?_ (by first | assumption | (simp; done) | (simp; omega) | omega)) | (refine bt ?_ (by assumption)))))) hl3 hc3).mono ?_; rintro e w4 ⟨A4, c4, rfl, hr4, hl4, hc4, hb4⟩; have T4 : Below w2.heap.size w2 w4 := (by repeat (with_reducible (first | exact Below.refl _ _ | assumption | apply ba | apply bd | apply bdr | (refine bs ?_ (by first | assumption | (simp; done) | (simp; omega) | omega)) | (refine bt ?_ (by assumption))))); have B4 : Below w0.heap.size w0 w4 := (by repeat (with_reducible (first | exact Below.refl _ _ | assumption | apply ba | apply bd | apply bdr | (refine bs ?_ (by first | assumption | (simp; done) | (simp; omega) | omega)) | (refine bt ?_ (by assumption))))); have x4 := T4.size; have y4 := B4.size; have hc4_0 := fun o => (bcell hb4).1 (w2.heap.size) o (by first | (with_reducible assumption) | (simp; done) | (simp; omega)); have hf4_0 := fun o => (bcell hb4).2 (w2.heap.size) o (by first | (with_reducible assumption) | (simp; done) | (simp; omega)); have z4_0 : w2.heap.size < w4.heap.size := zz hb4 (by first | (with_reducible assumption) | (simp; done) | (simp; omega)); (try (have gc4_0 := fun o => (bcell hb4).1 (w2.heap.size + 1) o (by first | (with_reducible assumption) | (simp; done) | (simp; omega)))); (try (have gf4_0 := fun o => (bcell hb4).2 (w2.heap.size + 1) o (by first | (with_reducible assumption) | (simp; done) | (simp; omega)))); (try (have gz4_0 : w2.heap.size + 1 < w4.heap.size := zz hb4 (by first | (with_reducible assumption) | (simp; done) | (simp; omega)))); (try (have gc4_1 := fun o => (bcell hb4).1 (w3.heap.size) o (by first | (with_reducible assumption) | (simp; done) | (simp; omega)))); (try (have gf4_1 := fun o => (bcell hb4).2 (w3.heap.size) o (by first | (with_reducible assumption) | (simp; done) | (simp; omega)))); (try (have gz4_1 : w3.heap.size < w4.heap.size := zz hb4 (by first | (with_reducible assumption) | (simp; done) | (simp; omega)))); have gn4_0 : w2.heap.size ≠ w4.heap.size := Nat.ne_of_lt z4_0; have gm4_0 : w4.heap.size ≠ w2.heap.size := Ne.symm gn4_0)
        | (go_at_call 51; refine (HS.out _ _ _ _ _ (hr4.call (by repeat (with_reducible (first | exact Below.refl _ _ | assumption | apply ba | apply bd | apply bdr | (refine bs ?_ (by first | assumption | (simp; done) | (simp; omega) | omega)) | (refine bt ?_ (by assumption)))))) hl4 hc4 (hr2.call (by repeat (with_reducible (first | exact Below.refl _ _ | assumption | apply ba | apply bd | apply bdr | (refine bs ?_ (by first | assumption | (simp; done) | (simp; omega) | omega)) | (refine bt ?_ (by assumption)))))) hl2 hc2).mono ?_; rintro e w5 ⟨A5, c5, rfl, hr5, hl5, hc5, hb5⟩; have T5 : Below w2.heap.size w2 w5 := (by repeat (with_reducible (first | exact Below.refl _ _ | assumption | apply ba | apply bd | apply bdr | (refine bs ?_ (by first | assumption | (simp; done) | (simp; omega) | omega)) | (refine bt ?_ (by assumption))))); have B5 : Below w0.heap.size w0 w5 := (by repeat (with_reducible (first | exact Below.refl _ _ | assumption | apply ba | apply bd | apply bdr | (refine bs ?_ (by first | assumption | (simp; done) | (simp; omega) | omega)) | (refine bt ?_ (by assumption))))); have x5 := T5.size; have y5 := B5.size; have hc5_0 := fun o => (bcell hb5).1 (w2.heap.size) o (by first | (with_reducible assumption) | (simp; done) | (simp; omega)); have hf5_0 := fun o => (bcell hb5).2 (w2.heap.size) o (by first | (with_reducible assumption) | (simp; done) | (simp; omega)); have z5_0 : w2.heap.size < w5.heap.size := zz hb5 (by first | (with_reducible assumption) | (simp; done) | (simp; omega)); (try (have gc5_0 := fun o => (bcell hb5).1 (w2.heap.size + 1) o (by first | (with_reducible assumption) | (simp; done) | (simp; omega)))); (try (have gf5_0 := fun o => (bcell hb5).2 (w2.heap.size + 1) o (by first | (with_reducible assumption) | (simp; done) | (simp; omega)))); (try (have gz5_0 : w2.heap.size + 1 < w5.heap.size := zz hb5 (by first | (with_reducible assumption) | (simp; done) | (simp; omega)))); (try (have gc5_1 := fun o => (bcell hb5).1 (w3.heap.size) o (by first | (with_reducible assumption) | (simp; done) | (simp; omega)))); (try (have gf5_1 := fun o => (bcell hb5).2 (w3.heap.size) o (by first | (with_reducible assumption) | (simp; done) | (simp; omega)))); (try (have gz5_1 : w3.heap.size < w5.heap.size := zz hb5 (by first | (with_reducible assumption) | (simp; done) | (simp; omega)))); (try (have gc5_2 := fun o => (bcell hb5).1 (w4.heap.size) o (by first | (with_reducible assumption) | (simp; done) | (simp; omega)))); (try (have gf5_2 := fun o => (bcell hb5).2 (w4.heap.size) o (by first | (with_reducible assumption) | (simp; done) | (simp; omega)))); (try (have gz5_2 : w4.heap.size < w5.heap.size := zz hb5 (by first | (with_reducible assumption) | (simp; done) | (simp; omega)))); have gn5_0 : w2.heap.size ≠ w5.heap.size := Nat.ne_of_lt z5_0; have gm5_0 : w5.heap.size ≠ w2.heap.size := Ne.symm gn5_0))
    all_goals (first | (go_wp2_with fail; go_meet) | go_meet)
    all_goals first | exact ⟨_, _, _, rfl, (Own.new_at rfl), hr5.call (by repeat (with_reducible (first | exact Below.refl _ _ | assumption | apply ba | apply bd | apply bdr | (refine bs ?_ (by first | assumption | (simp; done) | (simp; omega) | omega)) | (refine bt ?_ (by assumption))))), hl5, hc5, (by repeat (with_reducible (first | exact Below.refl _ _ | assumption | apply ba | apply bd | apply bdr | (refine bs ?_ (by first | assumption | (simp; done) | (simp; omega) | omega)) | (refine bt ?_ (by assumption)))))⟩ | exact ⟨_, _, _, rfl, (Own.drew (Own.new_at rfl)), hr5.call (by repeat (with_reducible (first | exact Below.refl _ _ | assumption | apply ba | apply bd | apply bdr | (refine bs ?_ (by first | assumption | (simp; done) | (simp; omega) | omega)) | (refine bt ?_ (by assumption))))), hl5, hc5, (by repeat (with_reducible (first | exact Below.refl _ _ | assumption | apply ba | apply bd | apply bdr | (refine bs ?_ (by first | assumption | (simp; done) | (simp; omega) | omega)) | (refine bt ?_ (by assumption)))))⟩ | exact ⟨_, _, _, rfl, (Own.new_at (by simp)), hr5.call (by repeat (with_reducible (first | exact Below.refl _ _ | assumption | apply ba | apply bd | apply bdr | (refine bs ?_ (by first | assumption | (simp; done) | (simp; omega) | omega)) | (refine bt ?_ (by assumption))))), hl5, hc5, (by repeat (with_reducible (first | exact Below.refl _ _ | assumption | apply ba | apply bd | apply bdr | (refine bs ?_ (by first | assumption | (simp; done) | (simp; omega) | omega)) | (refine bt ?_ (by assumption)))))⟩ | exact ⟨_, _, _, rfl, (Own.drew (Own.new_at (by simp))), hr5.call (by repeat (with_reducible (first | exact Below.refl _ _ | assumption | apply ba | apply bd | apply bdr | (refine bs ?_ (by first | assumption | (simp; done) | (simp; omega) | omega)) | (refine bt ?_ (by assumption))))), hl5, hc5, (by repeat (with_reducible (first | exact Below.refl _ _ | assumption | apply ba | apply bd | apply bdr | (refine bs ?_ (by first | assumption | (simp; done) | (simp; omega) | omega)) | (refine bt ?_ (by assumption)))))⟩ | exact ⟨_, _, _, rfl, Own.store (Own.call (Own.new_at rfl) hb5) _ _, rd_store hr5 (Own.call (Own.new_at rfl) hb5) _ _, hl5, hc5, (by repeat (with_reducible (first | exact Below.refl _ _ | assumption | apply ba | apply bd | apply bdr | (refine bs ?_ (by first | assumption | (simp; done) | (simp; omega) | omega)) | (refine bt ?_ (by assumption)))))⟩ | exact ⟨_, _, _, rfl, Own.store (Own.call (Own.drew (Own.new_at rfl)) hb5) _ _, rd_store hr5 (Own.call (Own.drew (Own.new_at rfl)) hb5) _ _, hl5, hc5, (by repeat (with_reducible (first | exact Below.refl _ _ | assumption | apply ba | apply bd | apply bdr | (refine bs ?_ (by first | assumption | (simp; done) | (simp; omega) | omega)) | (refine bt ?_ (by assumption)))))⟩ | exact ⟨_, _, _, rfl, Own.store (Own.call (Own.new_at (by simp)) hb5) _ _, rd_store hr5 (Own.call (Own.new_at (by simp)) hb5) _ _, hl5, hc5, (by repeat (with_reducible (first | exact Below.refl _ _ | assumption | apply ba | apply bd | apply bdr | (refine bs ?_ (by first | assumption | (simp; done) | (simp; omega) | omega)) | (refine bt ?_ (by assumption)))))⟩ | exact ⟨_, _, _, rfl, Own.store (Own.call (Own.drew (Own.new_at (by simp))) hb5) _ _, rd_store hr5 (Own.call (Own.drew (Own.new_at (by simp))) hb5) _ _, hl5, hc5, (by repeat (with_reducible (first | exact Below.refl _ _ | assumption | apply ba | apply bd | apply bdr | (refine bs ?_ (by first | assumption | (simp; done) | (simp; omega) | omega)) | (refine bt ?_ (by assumption)))))⟩ | exact ⟨_, _, _, rfl, Own.store (Own.call (Own.call (Own.new_at rfl) hb4) hb5) _ _, rd_store hr5 (Own.call (Own.call (Own.new_at rfl) hb4) hb5) _ _, hl5, hc5, (by repeat (with_reducible (first | exact Below.refl _ _ | assumption | apply ba | apply bd | apply bdr | (refine bs ?_ (by first | assumption | (simp; done) | (simp; omega) | omega)) | (refine bt ?_ (by assumption)))))⟩ | exact ⟨_, _, _, rfl, Own.store (Own.call (Own.call (Own.drew (Own.new_at rfl)) hb4) hb5) _ _, rd_store hr5 (Own.call (Own.call (Own.drew (Own.new_at rfl)) hb4) hb5) _ _, hl5, hc5, (by repeat (with_reducible (first | exact Below.refl _ _ | assumption | apply ba | apply bd | apply bdr | (refine bs ?_ (by first | assumption | (simp; done) | (simp; omega) | omega)) | (refine bt ?_ (by assumption)))))⟩ | exact ⟨_, _, _, rfl, Own.store (Own.call (Own.call (Own.new_at (by simp)) hb4) hb5) _ _, rd_store hr5 (Own.call (Own.call (Own.new_at (by simp)) hb4) hb5) _ _, hl5, hc5, (by repeat (with_reducible (first | exact Below.refl _ _ | assumption | apply ba | apply bd | apply bdr | (refine bs ?_ (by first | assumption | (simp; done) | (simp; omega) | omega)) | (refine bt ?_ (by assumption)))))⟩ | exact ⟨_, _, _, rfl, Own.store (Own.call (Own.call (Own.drew (Own.new_at (by simp))) hb4) hb5) _ _, rd_store hr5 (Own.call (Own.call (Own.drew (Own.new_at (by simp))) hb4) hb5) _ _, hl5, hc5, (by repeat (with_reducible (first | exact Below.refl _ _ | assumption | apply ba | apply bd | apply bdr | (refine bs ?_ (by first | assumption | (simp; done) | (simp; omega) | omega)) | (refine bt ?_ (by assumption)))))⟩ | exact ⟨_, _, _, rfl, Own.store (Own.call (Own.call (Own.call (Own.new_at rfl) hb3) hb4) hb5) _ _, rd_store hr5 (Own.call (Own.call (Own.call (Own.new_at rfl) hb3) hb4) hb5) _ _, hl5, hc5, (by repeat (with_reducible (first | exact Below.refl _ _ | assumption | apply ba | apply bd | apply bdr | (refine bs ?_ (by first | assumption | (simp; done) | (simp; omega) | omega)) | (refine bt ?_ (by assumption)))))⟩ | exact ⟨_, _, _, rfl, Own.store (Own.call (Own.call (Own.call (Own.drew (Own.new_at rfl)) hb3) hb4) hb5) _ _, rd_store hr5 (Own.call (Own.call (Own.call (Own.drew (Own.new_at rfl)) hb3) hb4) hb5) _ _, hl5, hc5, (by repeat (with_reducible (first | exact Below.refl _ _ | assumption | apply ba | apply bd | apply bdr | (refine bs ?_ (by first | assumption | (simp; done) | (simp; omega) | omega)) | (refine bt ?_ (by assumption)))))⟩ | exact ⟨_, _, _, rfl, Own.store (Own.call (Own.call (Own.call (Own.new_at (by simp)) hb3) hb4) hb5) _ _, rd_store hr5 (Own.call (Own.call (Own.call (Own.new_at (by simp)) hb3) hb4) hb5) _ _, hl5, hc5, (by repeat (with_reducible (first | exact Below.refl _ _ | assumption | apply ba | apply bd | apply bdr | (refine bs ?_ (by first | assumption | (simp; done) | (simp; omega) | omega)) | (refine bt ?_ (by assumption)))))⟩ | exact ⟨_, _, _, rfl, Own.store (Own.call (Own.call (Own.call (Own.drew (Own.new_at (by simp))) hb3) hb4) hb5) _ _, rd_store hr5 (Own.call (Own.call (Own.call (Own.drew (Own.new_at (by simp))) hb3) hb4) hb5) _ _, hl5, hc5, (by repeat (with_reducible (first | exact Below.refl _ _ | assumption | apply ba | apply bd | apply bdr | (refine bs ?_ (by first | assumption | (simp; done) | (simp; omega) | omega)) | (refine bt ?_ (by assumption)))))⟩
  case rest =>
    obtain ⟨g, A5, c5, rfl, O5, hr5, hl5, hc5, B5⟩ := hcut
    obtain ⟨_, _, _, _⟩ := id O5
    go_wp2_with fail
    refine (HT.out _ _ _ hr5 hl5 hc5).mono ?_
    rintro e w6 ⟨⟨c6, rfl⟩, hb6⟩
    have O6 := O5.call hb6
    obtain ⟨_, _, _, _⟩ := id O6
    have B6 : Below w0.heap.size w0 w6 := (by repeat (with_reducible (first | exact Below.refl _ _ | assumption | apply ba | apply bd | apply bdr | (refine bs ?_ (by first | assumption | (simp; done) | (simp; omega) | omega)) | (refine bt ?_ (by assumption)))))
    rcases hx with ⟨hx, rfl⟩ | ⟨hx, rfl, rfl⟩ | ⟨hx, rfl, rfl⟩
    · have h0 : r.length = 0 := by rw [hx]; rfl
      have h1 : ((r.length : Int) == 0) = true := by rw [h0]; rfl
      have h2 : (r.length == 0) = true := by rw [h0]; rfl
      go_wp2
      go_ret
      exact ⟨rfl, B6⟩
    · have h0 : r.length ≠ 0 := fun h => hx (List.eq_nil_of_length_eq_zero h)
      have h1 : ((r.length : Int) == 0) = false := by simp; exact hx
      have h2 : (r.length == 0) = false := by simpa using hx
      go_wp2
      go_ret
      exact ⟨rfl, B6⟩
    · have h0 : r.length ≠ 0 := fun h => hx (List.eq_nil_of_length_eq_zero h)
      have h1 : ((r.length : Int) == 0) = false := by simp; exact hx
      have h2 : (r.length == 0) = false := by simpa using hx
      go_wp2
      go_ret
      exact ⟨rfl, B6⟩
end Go.Proofs
namespace Go.Proofs
open Go.Shelf Go.RowKit Go.Proofs.Wide Go.Proofs.Dig
set_option maxRecDepth 100000
theorem un_of {neg : Bool} {l : List Int} {w w' : World} {e : Ending} (h : ∃ v, e = .returned v ∧ OfF neg l w' v ∧ Below w.heap.size w w') : UnF neg l w e w' := by
  obtain ⟨v, rfl, ⟨A, c, rfl, h1, h2, h3⟩, hb⟩ := h
  exact ⟨A, c, rfl, h1, h2, h3, hb⟩
theorem of_c {n : Int} {k : Nat} (h : RightZ n k) : Hid (OfC n (decide (n < 0)) (digs n.natAbs)) := Lib.hid fun w =>
  (of_any n (rz_inI h).1 w).mono fun e w' ⟨v, he, hr, hb⟩ => by
    obtain ⟨A, c, rfl, h1, h2, h3⟩ := rd_of_owns hr
    exact ⟨A, c, he, h1, h2, h3, hb⟩
theorem rz_len {n : Int} {k : Nat} (h : RightZ n k) : (digs n.natAbs).length ≤ 18 := digs_len h.1 h.2.1
theorem up_c {n : Int} {k : Nat} (h : RightZ n k) (i : Nat) (hi : i ≤ 20) (j : Int) (hj : j = i) : Hid (UpC (decide (n < 0)) (digs n.natAbs) (upD n i) j) := Lib.hid fun w A c hr hl hc => by
  subst hj
  have := rz_len h
  exact (refUp_any _ A _ c i w hr hl hc (by omega) (by omega)).mono fun e w' he => un_of he
theorem upD_len {n : Int} {k : Nat} (h : RightZ n k) (i : Nat) : (upD n i).length ≤ i + 18 := by
  have := (upD_spec n i).2.2
  have := rz_len h
  omega
theorem add_c {na nb : Bool} {a b : List Int} (ha : Canon a) (hb : Canon b) (hla : a.length ≤ 1000) (hlb : b.length ≤ 1000) : Hid (TwoC 51 na nb a b (addB na nb a b).1 (addB na nb a b).2) := Lib.hid fun w A B c d hra hl _ hrb hl' _ =>
  (refAdd_any na nb A B a b c d w ha hb hra hrb hl hl' (by omega) (by omega)).mono fun e w' he => un_of he
theorem mul_c {na nb : Bool} {a b : List Int} (ha : Canon a) (hb : Canon b) (hla : a.length ≤ 1000) (hlb : b.length ≤ 1000) : Hid (TwoC 52 na nb a b (na != nb) (digs (val a * val b).toNat)) := Lib.hid fun w A B c d hra hl hc hrb hl' hd =>
  (refMul_any na nb A B a b c d w ha hb hra hrb hl hc hl' hd (by omega) (by omega)).mono fun e w' he => un_of he
theorem div_c {na nb : Bool} {a b : List Int} (ha : Canon a) (hb : Canon b) (hy : 0 < val b) (hla : a.length ≤ 1000) (hlb : b.length ≤ 1000) : Hid (DivC na nb a b (na != nb) (digs (val a / val b).toNat) na (digs (val a % val b).toNat)) := Lib.hid fun w A B c d hra hl _ hrb hl' _ =>
  (refDiv_any na nb A B a b c d w ha hb hy hra hrb hl hl' (by omega) (by omega)).mono fun e w' ⟨v, u, he, ⟨A1, c1, e1, h1, h2, h3⟩, ⟨A2, c2, e2, h4, h5, h6⟩, hb⟩ => ⟨A1, c1, A2, c2, by rw [he, e1, e2], h1, h2, h3, h4, h5, h6, hb⟩
theorem fit_c {neg : Bool} {l : List Int} (hd : isDig l) {s : Nat} (hs : s ≤ 1000) {r : Option (Int × Nat)} (hr : fitZ (sg neg (val l)) s = r) {j : Int} (hj : j = s) : Hid (FitC neg l j (outN r) (outK r) r.isSome) := Lib.hid fun w A c h1 h2 h3 => by
  subst hr hj
  exact refFit_any neg A l c s w hd h1 h2 h3 (by omega)
theorem opt_out (r : Option (Int × Nat)) : (r.isSome = true ∧ outE r = 0) ∨ (r.isSome = false ∧ outN r = 0 ∧ outK r = 0 ∧ outE r = 53) := by
  cases r with
  | none => exact .inr ⟨rfl, rfl, rfl, rfl⟩
  | some p => obtain ⟨p, q⟩ := p; exact .inl ⟨rfl, rfl⟩
/-- What the reference's Do answers. -/
def DoG (q n : Int) (k : Nat) (m : Int) (l : Nat) (r : Option (Int × Nat)) : Prop := Hid (Gives 24 #[.int .i64 q, .int .i64 n, .int .i64 (k : Int), .int .i64 m, .int .i64 (l : Int)] (.tuple #[.int .i64 (outN r), .int .i64 (outK r), .int .i64 (outE r)]))
section
variable {n m : Int} {k l : Nat}
theorem sc_facts (h : RightZ n k) (h' : RightZ m l) : max (k : Int) (l : Int) = (sc k l : Int) ∧ (sc k l : Int) - k = ((sc k l - k : Nat) : Int) ∧ (sc k l : Int) - l = ((sc k l - l : Nat) : Int) ∧ sc k l - k ≤ 9 ∧ sc k l - l ≤ 9 ∧ k ≤ 9 ∧ l ≤ 9 ∧ sc k l ≤ 9 := by
  have h1 := h.2.2.1
  have h2 := h'.2.2.1
  unfold sc
  omega
theorem go_0 (h : RightZ n k) (h' : RightZ m l) : DoG 0 n k m l (addZ n k m l) := gives_unfold fun w => by
  obtain ⟨hs, e1, e2, b1, b2, b3, b4, b5⟩ := sc_facts h h'
  have u1 := upD_len h (sc k l - k)
  have u2 := upD_len h' (sc k l - l)
  exact do_0 n m k l (sc k l) _ _ _ _ _ _ w _ _ _ _ hs (by omega) (by omega) (by omega) _ _ (of_c h) (of_c h') (up_c h _ (by omega) _ e1) (up_c h' _ (by omega) _ e2) (add_c (upD_spec n _).1 (upD_spec m _).1 (by omega) (by omega)) (fit_c (add_big _ _ _ _ (upD_spec n _).1 (upD_spec m _).1).1.1 (by omega) do_add rfl) (opt_out _)
theorem go_1 (h : RightZ n k) (h' : RightZ m l) : DoG 1 n k m l (subZ n k m l) := gives_unfold fun w => by
  obtain ⟨hs, e1, e2, b1, b2, b3, b4, b5⟩ := sc_facts h h'
  have u1 := upD_len h (sc k l - k)
  have u2 := upD_len h' (sc k l - l)
  exact do_1 n m k l (sc k l) _ _ _ _ _ _ w _ _ _ _ hs (by omega) (by omega) (by omega) _ _ (of_c h) (of_c h') (up_c h _ (by omega) _ e1) (up_c h' _ (by omega) _ e2) (add_c (upD_spec n _).1 (upD_spec m _).1 (by omega) (by omega)) (fit_c (add_big _ _ _ _ (upD_spec n _).1 (upD_spec m _).1).1.1 (by omega) do_sub rfl) (opt_out _)
theorem go_2 (h : RightZ n k) (h' : RightZ m l) : DoG 2 n k m l (mulZ n k m l) := gives_unfold fun w => by
  obtain ⟨hs, e1, e2, b1, b2, b3, b4, b5⟩ := sc_facts h h'
  have l1 := rz_len h
  have l2 := rz_len h'
  exact do_2 n m k l (sc k l) _ _ _ _ _ _ w _ _ _ _ hs (by omega) (by omega) (by omega) _ _ (of_c h) (of_c h') (up_c h _ (by omega) _ e1) (up_c h' _ (by omega) _ e2) (mul_c (digs_canon _) (digs_canon _) (by omega) (by omega)) (fit_c (digs_val _).2.1 (by omega) do_mul (by omega)) (opt_out _)
theorem go_3 (h : RightZ n k) (h' : RightZ m l) (hm : m ≠ 0) : DoG 3 n k m l (divZ n k m l) := gives_unfold fun w => by
  obtain ⟨hs, e1, e2, b1, b2, b3, b4, b5⟩ := sc_facts h h'
  have u1 := upD_len h (9 + l - k)
  have l2 := rz_len h'
  have hv : 0 < val (digs m.natAbs) := by rw [← upD_zero]; exact val_pos hm 0
  exact do_3 n m k l (sc k l) _ _ _ _ _ _ w _ _ _ _ hs (by omega) (by omega) (by omega) _ _ _ _ _ hm (of_c h) (of_c h') (up_c h _ (by omega) _ e1) (up_c h' _ (by omega) _ e2) (up_c h (9 + l - k) (by omega) _ (by omega)) (div_c (upD_spec n _).1 (digs_canon _) hv (by omega) (by omega)) (fit_c (digs_val _).2.1 (by omega) do_div rfl) (opt_out _)
theorem go_4 (h : RightZ n k) (h' : RightZ m l) (hm : m ≠ 0) : DoG 4 n k m l (idivZ n k m l) := gives_unfold fun w => by
  obtain ⟨hs, e1, e2, b1, b2, b3, b4, b5⟩ := sc_facts h h'
  have u1 := upD_len h (sc k l - k)
  have u2 := upD_len h' (sc k l - l)
  exact do_4 n m k l (sc k l) _ _ _ _ _ _ w _ _ _ _ hs (by omega) (by omega) (by omega) _ _ _ _ hm (of_c h) (of_c h') (up_c h _ (by omega) _ e1) (up_c h' _ (by omega) _ e2) (div_c (upD_spec n _).1 (upD_spec m _).1 (val_pos hm _) (by omega) (by omega)) (fit_c (digs_val _).2.1 (by omega) do_idiv rfl) (opt_out _)
theorem go_5 (h : RightZ n k) (h' : RightZ m l) (hm : m ≠ 0) : DoG 5 n k m l (modZ n k m l) := gives_unfold fun w => by
  obtain ⟨hs, e1, e2, b1, b2, b3, b4, b5⟩ := sc_facts h h'
  have u1 := upD_len h (sc k l - k)
  have u2 := upD_len h' (sc k l - l)
  exact do_5 n m k l (sc k l) _ _ _ _ _ _ w _ _ _ _ hs (by omega) (by omega) (by omega) _ _ _ _ hm (of_c h) (of_c h') (up_c h _ (by omega) _ e1) (up_c h' _ (by omega) _ e2) (div_c (upD_spec n _).1 (upD_spec m _).1 (val_pos hm _) (by omega) (by omega)) (fit_c (digs_val _).2.1 (by omega) (do_mod hm) rfl) (opt_out _)
def DoZ (q n : Int) (k l : Nat) : Prop := Hid (Gives 24 #[.int .i64 q, .int .i64 n, .int .i64 (k : Int), .int .i64 0, .int .i64 (l : Int)] (.tuple #[.int .i64 0, .int .i64 0, .int .i64 52]))
theorem go_z3 (h : RightZ n k) (h' : RightZ 0 l) : DoZ 3 n k l := gives_unfold fun w => by
  obtain ⟨hs, e1, e2, b1, b2, b3, b4, b5⟩ := sc_facts h h'
  exact do_z3 n k l (sc k l) _ _ _ _ _ _ w hs (by omega) (by omega) (by omega) (of_c h) (of_c h') (up_c h _ (by omega) _ e1) (up_c h' _ (by omega) _ e2)
theorem go_z4 (h : RightZ n k) (h' : RightZ 0 l) : DoZ 4 n k l := gives_unfold fun w => by
  obtain ⟨hs, e1, e2, b1, b2, b3, b4, b5⟩ := sc_facts h h'
  exact do_z4 n k l (sc k l) _ _ _ _ _ _ w hs (by omega) (by omega) (by omega) (of_c h) (of_c h') (up_c h _ (by omega) _ e1) (up_c h' _ (by omega) _ e2)
theorem go_z5 (h : RightZ n k) (h' : RightZ 0 l) : DoZ 5 n k l := gives_unfold fun w => by
  obtain ⟨hs, e1, e2, b1, b2, b3, b4, b5⟩ := sc_facts h h'
  exact do_z5 n k l (sc k l) _ _ _ _ _ _ w hs (by omega) (by omega) (by omega) (of_c h) (of_c h') (up_c h _ (by omega) _ e1) (up_c h' _ (by omega) _ e2)
end
end Go.Proofs
namespace Go.Proofs
open Go.Shelf Go.RowKit Go.Proofs.Wide Go.Proofs.Dig
set_option maxRecDepth 100000
theorem trim_c {r : List Int} (h : trimL r = r) : Hid (TrimC r) := Lib.hid fun w A c hr hl hc => (trim_any A r c w hr hl hc).mono fun e w' he => by
  obtain ⟨rfl, rfl⟩ := he
  exact ⟨⟨c, by rw [h]⟩, Below.refl _ _⟩
theorem go_cmp {n m : Int} {k l : Nat} (h : RightZ n k) (h' : RightZ m l) : Hid (Gives 26 #[.int .i64 n, .int .i64 (k : Int), .int .i64 m, .int .i64 (l : Int)] (.int .i64 (cmpZ n k m l))) := gives_unfold fun w => by
  obtain ⟨hs, e1, e2, b1, b2, b3, b4, b5⟩ := sc_facts h h'
  have u1 := upD_len h (sc k l - k)
  have u2 := upD_len h' (sc k l - l)
  obtain ⟨r, hr⟩ : ∃ r, addB (decide (n < 0)) (!decide (m < 0)) (upD n (sc k l - k)) (upD m (sc k l - l)) = r := ⟨_, rfl⟩
  obtain ⟨ht, h0, hn, hp⟩ := do_cmp r hr
  have ha := add_c (na := decide (n < 0)) (nb := !decide (m < 0)) (upD_spec n (sc k l - k)).1 (upD_spec m (sc k l - l)).1 (by omega) (by omega)
  rw [hr] at ha
  refine cmp_core n m k l (sc k l) _ _ _ _ _ _ _ _ _ w hs (by omega) (by omega) (of_c h) (of_c h') (up_c h _ (by omega) _ e1) (up_c h' _ (by omega) _ e2) ha (trim_c ht) ?_
  by_cases hz : r.2 = []
  · exact .inl ⟨hz, h0 hz⟩
  · cases hb : r.1 with
    | true => exact .inr (.inl ⟨hz, rfl, hn hz hb⟩)
    | false => exact .inr (.inr ⟨hz, rfl, hp hz hb⟩)
end Go.Proofs
