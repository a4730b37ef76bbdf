/- The statement AtomRights. No condition beyond what the theorems state. -/
import Derived.Test.YtemgabmafmehnaaGreatDoorLwRights1
import Derived.Test.YtemgabmafmehnaaGreatDoorLwTexts
namespace Go.Proofs.YtemgabmafmehnaaGreatDoor
open Go.Shelf Go.RowKit Go.Proofs.Wide Go.Proofs.Dig
set_option maxRecDepth 100000
set_option maxHeartbeats 8000000
theorem rights_1_no (n c : Int) (s : ByteArray) (b : Bool) (w : World) (hT : TT w) (HR : Hid (Gives 13 #[.agg #[.int .i64 1, .int .i64 n, .int .i64 c, .string s, .bool b]] (.bool false))) (HA : Hid (GT 42 #[.agg #[.int .i64 1, .int .i64 n, .int .i64 c, .string s, .bool b]] (.bool false))) (HQ : Hid (Gives 16 #[.agg #[.int .i64 1, .int .i64 n, .int .i64 c, .string s, .bool b]] (.bool true))) : Calls Tryz.prog 3 #[.agg #[.int .i64 1, .int .i64 n, .int .i64 c, .string s, .bool b]] w fun e w' => e = .returned (.bool true) ∧ Below w.heap.size w w' := by
  have HT := Lib.hid hT
  clear hT
  have WK := wake3
  go_enter Tryz.func3, Tryz.ntmps3
  go_wp2_with fail
  refine (WK.out.call HT.out (by repeat (with_reducible (first | exact Below.refl _ _ | assumption | apply ba | apply bd | apply bdr | (refine bs ?_ (by first | assumption | (simp; done) | (simp; omega))) | (refine bt ?_ (by assumption)))))).mono ?_
  rintro e w1 ⟨rfl, hb1⟩; have B1 : Below w.heap.size w w1 := (by repeat (with_reducible (first | exact Below.refl _ _ | assumption | apply ba | apply bd | apply bdr | (refine bs ?_ (by first | assumption | (simp; done) | (simp; omega))) | (refine bt ?_ (by assumption))))); have y1 := B1.size; have hc1_0 := fun o => (bcell hb1).1 (w.heap.size) o (by first | (simp; done) | assumption | (simp; omega)); have hf1_0 := fun o => (bcell hb1).2 (w.heap.size) o (by first | (simp; done) | assumption | (simp; omega)); have z1_0 : w.heap.size < w1.heap.size := zz hb1 (by first | (simp; done) | assumption | (simp; omega))
  go_wp2_with fail
  refine (HR.out.call _).mono ?_
  rintro e w2 ⟨rfl, hb2⟩; have B2 : Below w.heap.size w w2 := (by repeat (with_reducible (first | exact Below.refl _ _ | assumption | apply ba | apply bd | apply bdr | (refine bs ?_ (by first | assumption | (simp; done) | (simp; omega))) | (refine bt ?_ (by assumption))))); have y2 := B2.size; have hc2_0 := fun o => (bcell hb2).1 (w.heap.size) o (by first | (simp; done) | assumption | (simp; omega)); have hf2_0 := fun o => (bcell hb2).2 (w.heap.size) o (by first | (simp; done) | assumption | (simp; omega)); have z2_0 : w.heap.size < w2.heap.size := zz hb2 (by first | (simp; done) | assumption | (simp; omega))
  go_upto_region 4 with fail
  refine Lr41_region n c s b false w.heap.size _ _ _ _ _ _ _ _ _ _ _ _ _ _ _ _ _ _ _ _ _ _ _ _ _ _ _ _ _ _ _ _ _ _ _ _ _ _ _ _ _ _ _ _ _ _ _ _ _ _ _ _ _ _ _ _ _ _ _ _ _ _ _ _ _ _ _ _ _ _ _ _ _ _ _ _ _ _ _ _ _ _ _ _ _ _ _ _ _ _ _ _ _ _ _ w _ _ (by repeat (with_reducible (first | exact Below.refl _ _ | assumption | apply ba | apply bd | apply bdr | (refine bs ?_ (by first | assumption | (simp; done) | (simp; omega))) | (refine bt ?_ (by assumption))))) (by first | (go_simp; done) | (simp [go_sem, *]; done)) (by first | (go_simp; done) | (simp [go_sem, *]; done)) (by first | (go_simp; done) | (simp [go_sem, *]; done)) (by first | (go_simp; done) | (simp [go_sem, *]; done)) (by first | (go_simp; done) | (simp [go_sem, *]; done)) HT HA HQ ?_
  rintro w3 _ _ ⟨q0, q1, q2, q3, q4⟩ B3
  have y3 := B3.size
  have zg : w.heap.size < w3.heap.size := World.block_lt_of_cell? w3 _ q0
  go_wp2
  go_ret
  exact ⟨rfl, by repeat (with_reducible (first | exact Below.refl _ _ | assumption | apply ba | apply bd | apply bdr | (refine bs ?_ (by first | assumption | (simp; done) | (simp; omega))) | (refine bt ?_ (by assumption))))⟩
theorem rights_1_yes (n c : Int) (s : ByteArray) (b : Bool) (u : List UInt8) (w : World) (hT : TT w) (HR : Hid (Gives 13 #[.agg #[.int .i64 1, .int .i64 n, .int .i64 c, .string s, .bool b]] (.bool true))) (HA : Hid (GT 42 #[.agg #[.int .i64 1, .int .i64 n, .int .i64 c, .string s, .bool b]] (.bool true))) (HQ : Hid (Gives 16 #[.agg #[.int .i64 1, .int .i64 n, .int .i64 c, .string s, .bool b]] (.bool true))) (H3 : Hid (Gives 17 #[.string s] (.agg #[.int .i64 3, .int .i64 0, .int .i64 0, .string s, .bool false]))) (H5 : Hid (Gives 18 #[.string s] (.agg #[.int .i64 5, .int .i64 0, .int .i64 0, .string s, .bool false]))) (HS : Hid (GT 21 #[.agg #[.int .i64 1, .int .i64 n, .int .i64 c, .string s, .bool b]] (.string (ba' u)))) (HX : Hid (Gives 22 #[.agg #[.int .i64 1, .int .i64 n, .int .i64 c, .string s, .bool b]] (.string (ba' u)))) (HN : Hid (Gives 23 #[.agg #[.int .i64 1, .int .i64 n, .int .i64 c, .string s, .bool b]] (.agg #[.int .i64 n, .int .i64 c]))) : Calls Tryz.prog 3 #[.agg #[.int .i64 1, .int .i64 n, .int .i64 c, .string s, .bool b]] w fun e w' => e = .returned (.bool true) ∧ Below w.heap.size w w' := by
  have HT := Lib.hid hT
  clear hT
  have WK := wake3
  go_enter Tryz.func3, Tryz.ntmps3
  go_wp2_with fail
  refine (WK.out.call HT.out (by repeat (with_reducible (first | exact Below.refl _ _ | assumption | apply ba | apply bd | apply bdr | (refine bs ?_ (by first | assumption | (simp; done) | (simp; omega))) | (refine bt ?_ (by assumption)))))).mono ?_
  rintro e w1 ⟨rfl, hb1⟩; have B1 : Below w.heap.size w w1 := (by repeat (with_reducible (first | exact Below.refl _ _ | assumption | apply ba | apply bd | apply bdr | (refine bs ?_ (by first | assumption | (simp; done) | (simp; omega))) | (refine bt ?_ (by assumption))))); have y1 := B1.size; have hc1_0 := fun o => (bcell hb1).1 (w.heap.size) o (by first | (simp; done) | assumption | (simp; omega)); have hf1_0 := fun o => (bcell hb1).2 (w.heap.size) o (by first | (simp; done) | assumption | (simp; omega)); have z1_0 : w.heap.size < w1.heap.size := zz hb1 (by first | (simp; done) | assumption | (simp; omega))
  go_wp2_with fail
  refine (HR.out.call _).mono ?_
  rintro e w2 ⟨rfl, hb2⟩; have B2 : Below w.heap.size w w2 := (by repeat (with_reducible (first | exact Below.refl _ _ | assumption | apply ba | apply bd | apply bdr | (refine bs ?_ (by first | assumption | (simp; done) | (simp; omega))) | (refine bt ?_ (by assumption))))); have y2 := B2.size; have hc2_0 := fun o => (bcell hb2).1 (w.heap.size) o (by first | (simp; done) | assumption | (simp; omega)); have hf2_0 := fun o => (bcell hb2).2 (w.heap.size) o (by first | (simp; done) | assumption | (simp; omega)); have z2_0 : w.heap.size < w2.heap.size := zz hb2 (by first | (simp; done) | assumption | (simp; omega))
  go_upto_region 4 with fail
  refine Lr41_region n c s b true w.heap.size _ _ _ _ _ _ _ _ _ _ _ _ _ _ _ _ _ _ _ _ _ _ _ _ _ _ _ _ _ _ _ _ _ _ _ _ _ _ _ _ _ _ _ _ _ _ _ _ _ _ _ _ _ _ _ _ _ _ _ _ _ _ _ _ _ _ _ _ _ _ _ _ _ _ _ _ _ _ _ _ _ _ _ _ _ _ _ _ _ _ _ _ _ _ _ w _ _ (by repeat (with_reducible (first | exact Below.refl _ _ | assumption | apply ba | apply bd | apply bdr | (refine bs ?_ (by first | assumption | (simp; done) | (simp; omega))) | (refine bt ?_ (by assumption))))) (by first | (go_simp; done) | (simp [go_sem, *]; done)) (by first | (go_simp; done) | (simp [go_sem, *]; done)) (by first | (go_simp; done) | (simp [go_sem, *]; done)) (by first | (go_simp; done) | (simp [go_sem, *]; done)) (by first | (go_simp; done) | (simp [go_sem, *]; done)) HT HA HQ ?_
  rintro w3 _ _ ⟨q0, q1, q2, q3, q4⟩ B3
  have y3 := B3.size
  have zg : w.heap.size < w3.heap.size := World.block_lt_of_cell? w3 _ q0
  go_upto_region 9 with fail
  refine Lr9_region 1 n c s b w.heap.size w3.heap.size _ _ _ _ _ _ _ _ _ _ _ _ _ _ _ _ _ _ _ _ _ _ _ _ _ _ _ _ _ _ _ _ _ _ _ _ _ _ _ _ _ _ _ _ _ _ _ _ _ _ _ _ _ _ _ _ _ _ _ _ _ _ _ _ _ _ _ _ _ _ _ _ _ _ _ _ _ _ _ _ _ _ _ _ _ _ _ _ _ _ _ _ _ _ _ w _ _ (by repeat (with_reducible (first | exact Below.refl _ _ | assumption | apply ba | apply bd | apply bdr | (refine bs ?_ (by first | assumption | (simp; done) | (simp; omega))) | (refine bt ?_ (by assumption))))) (by first | (go_simp; done) | (simp [go_sem, *]; done)) (by first | (go_simp; done) | (simp [go_sem, *]; done)) (by first | (go_simp; done) | (simp [go_sem, *]; done)) (by first | (go_simp; done) | (simp [go_sem, *]; done)) (by first | (go_simp; done) | (simp [go_sem, *]; done)) (by first | (go_simp; done) | (simp [go_sem, *]; done)) (by first | (go_simp; done) | (simp [go_sem, *]; done)) H3 H5 ?_
  rintro w4 ⟨p0, p1, p2, p3, p4, p5, p6⟩ B4
  have y4 := B4.size
  go_upto_region 11 with fail
  refine Lr11_region 1 n c s b u w.heap.size w3.heap.size _ _ _ _ _ _ _ _ _ _ _ _ _ _ _ _ _ _ _ _ _ _ _ _ _ _ _ _ _ _ _ _ _ _ _ _ _ _ _ _ _ _ _ _ _ _ _ _ _ _ _ _ _ _ _ _ _ _ _ _ _ _ _ _ _ _ _ _ _ _ _ _ _ _ _ _ _ _ _ _ _ _ _ _ _ _ _ _ _ _ _ _ _ _ _ w _ _ (by repeat (with_reducible (first | exact Below.refl _ _ | assumption | apply ba | apply bd | apply bdr | (refine bs ?_ (by first | assumption | (simp; done) | (simp; omega))) | (refine bt ?_ (by assumption))))) p0 p1 p2 p3 p4 p5 p6 HT HS HX HN ?_
  rintro w5 _ B5
  have y5 := B5.size
  go_wp2
  go_ret
  exact ⟨rfl, by repeat (with_reducible (first | exact Below.refl _ _ | assumption | apply ba | apply bd | apply bdr | (refine bs ?_ (by first | assumption | (simp; done) | (simp; omega))) | (refine bt ?_ (by assumption))))⟩
theorem rights_2_no (n c : Int) (s : ByteArray) (b : Bool) (w : World) (hT : TT w) (HR : Hid (Gives 13 #[.agg #[.int .i64 2, .int .i64 n, .int .i64 c, .string s, .bool b]] (.bool false))) (HA : Hid (GT 42 #[.agg #[.int .i64 2, .int .i64 n, .int .i64 c, .string s, .bool b]] (.bool false))) (HQ : Hid (Gives 16 #[.agg #[.int .i64 2, .int .i64 n, .int .i64 c, .string s, .bool b]] (.bool true))) : Calls Tryz.prog 3 #[.agg #[.int .i64 2, .int .i64 n, .int .i64 c, .string s, .bool b]] w fun e w' => e = .returned (.bool true) ∧ Below w.heap.size w w' := by
  have HT := Lib.hid hT
  clear hT
  have WK := wake3
  go_enter Tryz.func3, Tryz.ntmps3
  go_wp2_with fail
  refine (WK.out.call HT.out (by repeat (with_reducible (first | exact Below.refl _ _ | assumption | apply ba | apply bd | apply bdr | (refine bs ?_ (by first | assumption | (simp; done) | (simp; omega))) | (refine bt ?_ (by assumption)))))).mono ?_
  rintro e w1 ⟨rfl, hb1⟩; have B1 : Below w.heap.size w w1 := (by repeat (with_reducible (first | exact Below.refl _ _ | assumption | apply ba | apply bd | apply bdr | (refine bs ?_ (by first | assumption | (simp; done) | (simp; omega))) | (refine bt ?_ (by assumption))))); have y1 := B1.size; have hc1_0 := fun o => (bcell hb1).1 (w.heap.size) o (by first | (simp; done) | assumption | (simp; omega)); have hf1_0 := fun o => (bcell hb1).2 (w.heap.size) o (by first | (simp; done) | assumption | (simp; omega)); have z1_0 : w.heap.size < w1.heap.size := zz hb1 (by first | (simp; done) | assumption | (simp; omega))
  go_wp2_with fail
  refine (HR.out.call _).mono ?_
  rintro e w2 ⟨rfl, hb2⟩; have B2 : Below w.heap.size w w2 := (by repeat (with_reducible (first | exact Below.refl _ _ | assumption | apply ba | apply bd | apply bdr | (refine bs ?_ (by first | assumption | (simp; done) | (simp; omega))) | (refine bt ?_ (by assumption))))); have y2 := B2.size; have hc2_0 := fun o => (bcell hb2).1 (w.heap.size) o (by first | (simp; done) | assumption | (simp; omega)); have hf2_0 := fun o => (bcell hb2).2 (w.heap.size) o (by first | (simp; done) | assumption | (simp; omega)); have z2_0 : w.heap.size < w2.heap.size := zz hb2 (by first | (simp; done) | assumption | (simp; omega))
  go_upto_region 4 with fail
  refine Lr42_region n c s b false w.heap.size _ _ _ _ _ _ _ _ _ _ _ _ _ _ _ _ _ _ _ _ _ _ _ _ _ _ _ _ _ _ _ _ _ _ _ _ _ _ _ _ _ _ _ _ _ _ _ _ _ _ _ _ _ _ _ _ _ _ _ _ _ _ _ _ _ _ _ _ _ _ _ _ _ _ _ _ _ _ _ _ _ _ _ _ _ _ _ _ _ _ _ _ _ _ _ w _ _ (by repeat (with_reducible (first | exact Below.refl _ _ | assumption | apply ba | apply bd | apply bdr | (refine bs ?_ (by first | assumption | (simp; done) | (simp; omega))) | (refine bt ?_ (by assumption))))) (by first | (go_simp; done) | (simp [go_sem, *]; done)) (by first | (go_simp; done) | (simp [go_sem, *]; done)) (by first | (go_simp; done) | (simp [go_sem, *]; done)) (by first | (go_simp; done) | (simp [go_sem, *]; done)) (by first | (go_simp; done) | (simp [go_sem, *]; done)) HT HA HQ ?_
  rintro w3 _ _ ⟨q0, q1, q2, q3, q4⟩ B3
  have y3 := B3.size
  have zg : w.heap.size < w3.heap.size := World.block_lt_of_cell? w3 _ q0
  go_wp2
  go_ret
  exact ⟨rfl, by repeat (with_reducible (first | exact Below.refl _ _ | assumption | apply ba | apply bd | apply bdr | (refine bs ?_ (by first | assumption | (simp; done) | (simp; omega))) | (refine bt ?_ (by assumption))))⟩
theorem rights_2_yes (n c : Int) (s : ByteArray) (b : Bool) (u : List UInt8) (w : World) (hT : TT w) (HR : Hid (Gives 13 #[.agg #[.int .i64 2, .int .i64 n, .int .i64 c, .string s, .bool b]] (.bool true))) (HA : Hid (GT 42 #[.agg #[.int .i64 2, .int .i64 n, .int .i64 c, .string s, .bool b]] (.bool true))) (HQ : Hid (Gives 16 #[.agg #[.int .i64 2, .int .i64 n, .int .i64 c, .string s, .bool b]] (.bool true))) (H3 : Hid (Gives 17 #[.string s] (.agg #[.int .i64 3, .int .i64 0, .int .i64 0, .string s, .bool false]))) (H5 : Hid (Gives 18 #[.string s] (.agg #[.int .i64 5, .int .i64 0, .int .i64 0, .string s, .bool false]))) (HS : Hid (GT 21 #[.agg #[.int .i64 2, .int .i64 n, .int .i64 c, .string s, .bool b]] (.string (ba' u)))) (HX : Hid (Gives 22 #[.agg #[.int .i64 2, .int .i64 n, .int .i64 c, .string s, .bool b]] (.string (ba' u)))) (HN : Hid (Gives 23 #[.agg #[.int .i64 2, .int .i64 n, .int .i64 c, .string s, .bool b]] (.agg #[.int .i64 n, .int .i64 c]))) : Calls Tryz.prog 3 #[.agg #[.int .i64 2, .int .i64 n, .int .i64 c, .string s, .bool b]] w fun e w' => e = .returned (.bool true) ∧ Below w.heap.size w w' := by
  have HT := Lib.hid hT
  clear hT
  have WK := wake3
  go_enter Tryz.func3, Tryz.ntmps3
  go_wp2_with fail
  refine (WK.out.call HT.out (by repeat (with_reducible (first | exact Below.refl _ _ | assumption | apply ba | apply bd | apply bdr | (refine bs ?_ (by first | assumption | (simp; done) | (simp; omega))) | (refine bt ?_ (by assumption)))))).mono ?_
  rintro e w1 ⟨rfl, hb1⟩; have B1 : Below w.heap.size w w1 := (by repeat (with_reducible (first | exact Below.refl _ _ | assumption | apply ba | apply bd | apply bdr | (refine bs ?_ (by first | assumption | (simp; done) | (simp; omega))) | (refine bt ?_ (by assumption))))); have y1 := B1.size; have hc1_0 := fun o => (bcell hb1).1 (w.heap.size) o (by first | (simp; done) | assumption | (simp; omega)); have hf1_0 := fun o => (bcell hb1).2 (w.heap.size) o (by first | (simp; done) | assumption | (simp; omega)); have z1_0 : w.heap.size < w1.heap.size := zz hb1 (by first | (simp; done) | assumption | (simp; omega))
  go_wp2_with fail
  refine (HR.out.call _).mono ?_
  rintro e w2 ⟨rfl, hb2⟩; have B2 : Below w.heap.size w w2 := (by repeat (with_reducible (first | exact Below.refl _ _ | assumption | apply ba | apply bd | apply bdr | (refine bs ?_ (by first | assumption | (simp; done) | (simp; omega))) | (refine bt ?_ (by assumption))))); have y2 := B2.size; have hc2_0 := fun o => (bcell hb2).1 (w.heap.size) o (by first | (simp; done) | assumption | (simp; omega)); have hf2_0 := fun o => (bcell hb2).2 (w.heap.size) o (by first | (simp; done) | assumption | (simp; omega)); have z2_0 : w.heap.size < w2.heap.size := zz hb2 (by first | (simp; done) | assumption | (simp; omega))
  go_upto_region 4 with fail
  refine Lr42_region n c s b true w.heap.size _ _ _ _ _ _ _ _ _ _ _ _ _ _ _ _ _ _ _ _ _ _ _ _ _ _ _ _ _ _ _ _ _ _ _ _ _ _ _ _ _ _ _ _ _ _ _ _ _ _ _ _ _ _ _ _ _ _ _ _ _ _ _ _ _ _ _ _ _ _ _ _ _ _ _ _ _ _ _ _ _ _ _ _ _ _ _ _ _ _ _ _ _ _ _ w _ _ (by repeat (with_reducible (first | exact Below.refl _ _ | assumption | apply ba | apply bd | apply bdr | (refine bs ?_ (by first | assumption | (simp; done) | (simp; omega))) | (refine bt ?_ (by assumption))))) (by first | (go_simp; done) | (simp [go_sem, *]; done)) (by first | (go_simp; done) | (simp [go_sem, *]; done)) (by first | (go_simp; done) | (simp [go_sem, *]; done)) (by first | (go_simp; done) | (simp [go_sem, *]; done)) (by first | (go_simp; done) | (simp [go_sem, *]; done)) HT HA HQ ?_
  rintro w3 _ _ ⟨q0, q1, q2, q3, q4⟩ B3
  have y3 := B3.size
  have zg : w.heap.size < w3.heap.size := World.block_lt_of_cell? w3 _ q0
  go_upto_region 9 with fail
  refine Lr9_region 2 n c s b w.heap.size w3.heap.size _ _ _ _ _ _ _ _ _ _ _ _ _ _ _ _ _ _ _ _ _ _ _ _ _ _ _ _ _ _ _ _ _ _ _ _ _ _ _ _ _ _ _ _ _ _ _ _ _ _ _ _ _ _ _ _ _ _ _ _ _ _ _ _ _ _ _ _ _ _ _ _ _ _ _ _ _ _ _ _ _ _ _ _ _ _ _ _ _ _ _ _ _ _ _ w _ _ (by repeat (with_reducible (first | exact Below.refl _ _ | assumption | apply ba | apply bd | apply bdr | (refine bs ?_ (by first | assumption | (simp; done) | (simp; omega))) | (refine bt ?_ (by assumption))))) (by first | (go_simp; done) | (simp [go_sem, *]; done)) (by first | (go_simp; done) | (simp [go_sem, *]; done)) (by first | (go_simp; done) | (simp [go_sem, *]; done)) (by first | (go_simp; done) | (simp [go_sem, *]; done)) (by first | (go_simp; done) | (simp [go_sem, *]; done)) (by first | (go_simp; done) | (simp [go_sem, *]; done)) (by first | (go_simp; done) | (simp [go_sem, *]; done)) H3 H5 ?_
  rintro w4 ⟨p0, p1, p2, p3, p4, p5, p6⟩ B4
  have y4 := B4.size
  go_upto_region 11 with fail
  refine Lr11_region 2 n c s b u w.heap.size w3.heap.size _ _ _ _ _ _ _ _ _ _ _ _ _ _ _ _ _ _ _ _ _ _ _ _ _ _ _ _ _ _ _ _ _ _ _ _ _ _ _ _ _ _ _ _ _ _ _ _ _ _ _ _ _ _ _ _ _ _ _ _ _ _ _ _ _ _ _ _ _ _ _ _ _ _ _ _ _ _ _ _ _ _ _ _ _ _ _ _ _ _ _ _ _ _ _ w _ _ (by repeat (with_reducible (first | exact Below.refl _ _ | assumption | apply ba | apply bd | apply bdr | (refine bs ?_ (by first | assumption | (simp; done) | (simp; omega))) | (refine bt ?_ (by assumption))))) p0 p1 p2 p3 p4 p5 p6 HT HS HX HN ?_
  rintro w5 _ B5
  have y5 := B5.size
  go_wp2
  go_ret
  exact ⟨rfl, by repeat (with_reducible (first | exact Below.refl _ _ | assumption | apply ba | apply bd | apply bdr | (refine bs ?_ (by first | assumption | (simp; done) | (simp; omega))) | (refine bt ?_ (by assumption))))⟩
theorem rights_k_no (k : Int) (n c : Int) (s : ByteArray) (b : Bool) (w : World) (hT : TT w) (HR : Hid (Gives 13 #[.agg #[.int .i64 k, .int .i64 n, .int .i64 c, .string s, .bool b]] (.bool false))) (HA : Hid (GT 42 #[.agg #[.int .i64 k, .int .i64 n, .int .i64 c, .string s, .bool b]] (.bool false))) (HQ : Hid (Gives 16 #[.agg #[.int .i64 k, .int .i64 n, .int .i64 c, .string s, .bool b]] (.bool false))) (hk1 : (k == 1) = false) (hk2 : (k == 2) = false) : Calls Tryz.prog 3 #[.agg #[.int .i64 k, .int .i64 n, .int .i64 c, .string s, .bool b]] w fun e w' => e = .returned (.bool true) ∧ Below w.heap.size w w' := by
  have HT := Lib.hid hT
  clear hT
  have WK := wake3
  go_enter Tryz.func3, Tryz.ntmps3
  go_wp2_with fail
  refine (WK.out.call HT.out (by repeat (with_reducible (first | exact Below.refl _ _ | assumption | apply ba | apply bd | apply bdr | (refine bs ?_ (by first | assumption | (simp; done) | (simp; omega))) | (refine bt ?_ (by assumption)))))).mono ?_
  rintro e w1 ⟨rfl, hb1⟩; have B1 : Below w.heap.size w w1 := (by repeat (with_reducible (first | exact Below.refl _ _ | assumption | apply ba | apply bd | apply bdr | (refine bs ?_ (by first | assumption | (simp; done) | (simp; omega))) | (refine bt ?_ (by assumption))))); have y1 := B1.size; have hc1_0 := fun o => (bcell hb1).1 (w.heap.size) o (by first | (simp; done) | assumption | (simp; omega)); have hf1_0 := fun o => (bcell hb1).2 (w.heap.size) o (by first | (simp; done) | assumption | (simp; omega)); have z1_0 : w.heap.size < w1.heap.size := zz hb1 (by first | (simp; done) | assumption | (simp; omega))
  go_wp2_with fail
  refine (HR.out.call _).mono ?_
  rintro e w2 ⟨rfl, hb2⟩; have B2 : Below w.heap.size w w2 := (by repeat (with_reducible (first | exact Below.refl _ _ | assumption | apply ba | apply bd | apply bdr | (refine bs ?_ (by first | assumption | (simp; done) | (simp; omega))) | (refine bt ?_ (by assumption))))); have y2 := B2.size; have hc2_0 := fun o => (bcell hb2).1 (w.heap.size) o (by first | (simp; done) | assumption | (simp; omega)); have hf2_0 := fun o => (bcell hb2).2 (w.heap.size) o (by first | (simp; done) | assumption | (simp; omega)); have z2_0 : w.heap.size < w2.heap.size := zz hb2 (by first | (simp; done) | assumption | (simp; omega))
  go_upto_region 4 with fail
  refine Lr4k_region k n c s b false w.heap.size _ _ _ _ _ _ _ _ _ _ _ _ _ _ _ _ _ _ _ _ _ _ _ _ _ _ _ _ _ _ _ _ _ _ _ _ _ _ _ _ _ _ _ _ _ _ _ _ _ _ _ _ _ _ _ _ _ _ _ _ _ _ _ _ _ _ _ _ _ _ _ _ _ _ _ _ _ _ _ _ _ _ _ _ _ _ _ _ _ _ _ _ _ _ _ w _ _ (by repeat (with_reducible (first | exact Below.refl _ _ | assumption | apply ba | apply bd | apply bdr | (refine bs ?_ (by first | assumption | (simp; done) | (simp; omega))) | (refine bt ?_ (by assumption))))) (by first | (go_simp; done) | (simp [go_sem, *]; done)) (by first | (go_simp; done) | (simp [go_sem, *]; done)) (by first | (go_simp; done) | (simp [go_sem, *]; done)) (by first | (go_simp; done) | (simp [go_sem, *]; done)) (by first | (go_simp; done) | (simp [go_sem, *]; done)) HT HA HQ hk1 hk2 ?_
  rintro w3 _ _ ⟨q0, q1, q2, q3, q4⟩ B3
  have y3 := B3.size
  have zg : w.heap.size < w3.heap.size := World.block_lt_of_cell? w3 _ q0
  go_wp2
  go_ret
  exact ⟨rfl, by repeat (with_reducible (first | exact Below.refl _ _ | assumption | apply ba | apply bd | apply bdr | (refine bs ?_ (by first | assumption | (simp; done) | (simp; omega))) | (refine bt ?_ (by assumption))))⟩
theorem rights_k_yes (k : Int) (n c : Int) (s : ByteArray) (b : Bool) (u : List UInt8) (w : World) (hT : TT w) (HR : Hid (Gives 13 #[.agg #[.int .i64 k, .int .i64 n, .int .i64 c, .string s, .bool b]] (.bool true))) (HA : Hid (GT 42 #[.agg #[.int .i64 k, .int .i64 n, .int .i64 c, .string s, .bool b]] (.bool true))) (HQ : Hid (Gives 16 #[.agg #[.int .i64 k, .int .i64 n, .int .i64 c, .string s, .bool b]] (.bool false))) (hk1 : (k == 1) = false) (hk2 : (k == 2) = false) (H3 : Hid (Gives 17 #[.string s] (.agg #[.int .i64 3, .int .i64 0, .int .i64 0, .string s, .bool false]))) (H5 : Hid (Gives 18 #[.string s] (.agg #[.int .i64 5, .int .i64 0, .int .i64 0, .string s, .bool false]))) (HS : Hid (GT 21 #[.agg #[.int .i64 k, .int .i64 n, .int .i64 c, .string s, .bool b]] (.string (ba' u)))) (HX : Hid (Gives 22 #[.agg #[.int .i64 k, .int .i64 n, .int .i64 c, .string s, .bool b]] (.string (ba' u)))) (HN : Hid (Gives 23 #[.agg #[.int .i64 k, .int .i64 n, .int .i64 c, .string s, .bool b]] (.agg #[.int .i64 n, .int .i64 c]))) : Calls Tryz.prog 3 #[.agg #[.int .i64 k, .int .i64 n, .int .i64 c, .string s, .bool b]] w fun e w' => e = .returned (.bool true) ∧ Below w.heap.size w w' := by
  have HT := Lib.hid hT
  clear hT
  have WK := wake3
  go_enter Tryz.func3, Tryz.ntmps3
  go_wp2_with fail
  refine (WK.out.call HT.out (by repeat (with_reducible (first | exact Below.refl _ _ | assumption | apply ba | apply bd | apply bdr | (refine bs ?_ (by first | assumption | (simp; done) | (simp; omega))) | (refine bt ?_ (by assumption)))))).mono ?_
  rintro e w1 ⟨rfl, hb1⟩; have B1 : Below w.heap.size w w1 := (by repeat (with_reducible (first | exact Below.refl _ _ | assumption | apply ba | apply bd | apply bdr | (refine bs ?_ (by first | assumption | (simp; done) | (simp; omega))) | (refine bt ?_ (by assumption))))); have y1 := B1.size; have hc1_0 := fun o => (bcell hb1).1 (w.heap.size) o (by first | (simp; done) | assumption | (simp; omega)); have hf1_0 := fun o => (bcell hb1).2 (w.heap.size) o (by first | (simp; done) | assumption | (simp; omega)); have z1_0 : w.heap.size < w1.heap.size := zz hb1 (by first | (simp; done) | assumption | (simp; omega))
  go_wp2_with fail
  refine (HR.out.call _).mono ?_
  rintro e w2 ⟨rfl, hb2⟩; have B2 : Below w.heap.size w w2 := (by repeat (with_reducible (first | exact Below.refl _ _ | assumption | apply ba | apply bd | apply bdr | (refine bs ?_ (by first | assumption | (simp; done) | (simp; omega))) | (refine bt ?_ (by assumption))))); have y2 := B2.size; have hc2_0 := fun o => (bcell hb2).1 (w.heap.size) o (by first | (simp; done) | assumption | (simp; omega)); have hf2_0 := fun o => (bcell hb2).2 (w.heap.size) o (by first | (simp; done) | assumption | (simp; omega)); have z2_0 : w.heap.size < w2.heap.size := zz hb2 (by first | (simp; done) | assumption | (simp; omega))
  go_upto_region 4 with fail
  refine Lr4k_region k n c s b true w.heap.size _ _ _ _ _ _ _ _ _ _ _ _ _ _ _ _ _ _ _ _ _ _ _ _ _ _ _ _ _ _ _ _ _ _ _ _ _ _ _ _ _ _ _ _ _ _ _ _ _ _ _ _ _ _ _ _ _ _ _ _ _ _ _ _ _ _ _ _ _ _ _ _ _ _ _ _ _ _ _ _ _ _ _ _ _ _ _ _ _ _ _ _ _ _ _ w _ _ (by repeat (with_reducible (first | exact Below.refl _ _ | assumption | apply ba | apply bd | apply bdr | (refine bs ?_ (by first | assumption | (simp; done) | (simp; omega))) | (refine bt ?_ (by assumption))))) (by first | (go_simp; done) | (simp [go_sem, *]; done)) (by first | (go_simp; done) | (simp [go_sem, *]; done)) (by first | (go_simp; done) | (simp [go_sem, *]; done)) (by first | (go_simp; done) | (simp [go_sem, *]; done)) (by first | (go_simp; done) | (simp [go_sem, *]; done)) HT HA HQ hk1 hk2 ?_
  rintro w3 _ _ ⟨q0, q1, q2, q3, q4⟩ B3
  have y3 := B3.size
  have zg : w.heap.size < w3.heap.size := World.block_lt_of_cell? w3 _ q0
  go_upto_region 9 with fail
  refine Lr9_region k n c s b w.heap.size w3.heap.size _ _ _ _ _ _ _ _ _ _ _ _ _ _ _ _ _ _ _ _ _ _ _ _ _ _ _ _ _ _ _ _ _ _ _ _ _ _ _ _ _ _ _ _ _ _ _ _ _ _ _ _ _ _ _ _ _ _ _ _ _ _ _ _ _ _ _ _ _ _ _ _ _ _ _ _ _ _ _ _ _ _ _ _ _ _ _ _ _ _ _ _ _ _ _ w _ _ (by repeat (with_reducible (first | exact Below.refl _ _ | assumption | apply ba | apply bd | apply bdr | (refine bs ?_ (by first | assumption | (simp; done) | (simp; omega))) | (refine bt ?_ (by assumption))))) (by first | (go_simp; done) | (simp [go_sem, *]; done)) (by first | (go_simp; done) | (simp [go_sem, *]; done)) (by first | (go_simp; done) | (simp [go_sem, *]; done)) (by first | (go_simp; done) | (simp [go_sem, *]; done)) (by first | (go_simp; done) | (simp [go_sem, *]; done)) (by first | (go_simp; done) | (simp [go_sem, *]; done)) (by first | (go_simp; done) | (simp [go_sem, *]; done)) H3 H5 ?_
  rintro w4 ⟨p0, p1, p2, p3, p4, p5, p6⟩ B4
  have y4 := B4.size
  go_upto_region 11 with fail
  refine Lr11_region k n c s b u w.heap.size w3.heap.size _ _ _ _ _ _ _ _ _ _ _ _ _ _ _ _ _ _ _ _ _ _ _ _ _ _ _ _ _ _ _ _ _ _ _ _ _ _ _ _ _ _ _ _ _ _ _ _ _ _ _ _ _ _ _ _ _ _ _ _ _ _ _ _ _ _ _ _ _ _ _ _ _ _ _ _ _ _ _ _ _ _ _ _ _ _ _ _ _ _ _ _ _ _ _ w _ _ (by repeat (with_reducible (first | exact Below.refl _ _ | assumption | apply ba | apply bd | apply bdr | (refine bs ?_ (by first | assumption | (simp; done) | (simp; omega))) | (refine bt ?_ (by assumption))))) p0 p1 p2 p3 p4 p5 p6 HT HS HX HN ?_
  rintro w5 _ B5
  have y5 := B5.size
  go_wp2
  go_ret
  exact ⟨rfl, by repeat (with_reducible (first | exact Below.refl _ _ | assumption | apply ba | apply bd | apply bdr | (refine bs ?_ (by first | assumption | (simp; done) | (simp; omega))) | (refine bt ?_ (by assumption))))⟩
theorem text_g (l : List UInt8) : Hid (Gives 17 #[.string (ba' l)] (.agg #[.int .i64 3, .int .i64 0, .int .i64 0, .string (ba' l), .bool false])) := gives_unfold fun w => atText_any l w
theorem raw_g (l : List UInt8) : Hid (Gives 18 #[.string (ba' l)] (.agg #[.int .i64 5, .int .i64 0, .int .i64 0, .string (ba' l), .bool false])) := gives_unfold fun w => atRaw_any l w
theorem rights_law (k n c : Int) (l : List UInt8) (b : Bool) (hn : InI n) (hc : InI c) (hl : l.length ≤ 1048576) (w : World) (hT : TT w) : Calls Tryz.prog 3 #[.agg #[.int .i64 k, .int .i64 n, .int .i64 c, .string (ba' l), .bool b]] w fun e w' => e = .returned (.bool true) ∧ Below w.heap.size w w' := by
  by_cases hg : ∃ a : AV, a.ok ∧ .agg #[.int .i64 k, .int .i64 n, .int .i64 c, .string (ba' l), .bool b] = a.v
  · obtain ⟨a, ha, e⟩ := hg
    rw [e]
    have HA := right_av a ha
    have HR := refR_ok a ha
    have HS := string_av a ha
    have HX := refText_av a ha
    cases a with
    | int n => exact rights_1_yes n 0 ⟨#[]⟩ false _ w hT HR HA (gives_unfold fun w => atNumeric'_1 n 0 ⟨#[]⟩ false w) (text_g []) (raw_g []) HS HX (gives_unfold fun w => atNum_int' n 0 ⟨#[]⟩ false w)
    | dec n c => exact rights_2_yes n c ⟨#[]⟩ false _ w hT HR HA (gives_unfold fun w => atNumeric'_2 n c ⟨#[]⟩ false w) (text_g []) (raw_g []) HS HX (gives_unfold fun w => atNum_dec' n c ⟨#[]⟩ false w)
    | str l => exact rights_k_yes 3 0 0 (ba' l) false _ w hT HR HA (gives_unfold fun w => atNumeric'_3 0 0 (ba' l) false w) rfl rfl (text_g l) (raw_g l) HS HX (gives_unfold fun w => atNum'_3 0 0 (ba' l) false w)
    | boo b => exact rights_k_yes 4 0 0 ⟨#[]⟩ b _ w hT HR HA (gives_unfold fun w => atNumeric'_4 0 0 ⟨#[]⟩ b w) rfl rfl (text_g []) (raw_g []) HS HX (gives_unfold fun w => atNum'_4 0 0 ⟨#[]⟩ b w)
    | raw l => exact rights_k_yes 5 0 0 (ba' l) false _ w hT HR HA (gives_unfold fun w => atNumeric'_5 0 0 (ba' l) false w) rfl rfl (text_g l) (raw_g l) HS HX (gives_unfold fun w => atNum'_5 0 0 (ba' l) false w)
  · have HA : Hid (GT 42 #[.agg #[.int .i64 k, .int .i64 n, .int .i64 c, .string (ba' l), .bool b]] (.bool false)) := by
      rcases right_bad k n c l b hn hc hl with h | h
      · exact absurd h hg
      · exact h
    have HR : Hid (Gives 13 #[.agg #[.int .i64 k, .int .i64 n, .int .i64 c, .string (ba' l), .bool b]] (.bool false)) := by
      rcases refR_cases k n c l b hn hc hl with ⟨a, ha, e, _⟩ | h
      · exact absurd ⟨a, ha, e⟩ hg
      · exact h
    by_cases k1 : k = 1
    · subst k1; exact rights_1_no n c (ba' l) b w hT HR HA (gives_unfold fun w => atNumeric_1 n c l b w)
    by_cases k2 : k = 2
    · subst k2; exact rights_2_no n c (ba' l) b w hT HR HA (gives_unfold fun w => atNumeric_2 n c l b w)
    exact rights_k_no k n c (ba' l) b w hT HR HA (gives_unfold fun w => atNumeric_no k n c l b w ⟨k1, k2⟩) (by simpa using k1) (by simpa using k2)
end Go.Proofs.YtemgabmafmehnaaGreatDoor
