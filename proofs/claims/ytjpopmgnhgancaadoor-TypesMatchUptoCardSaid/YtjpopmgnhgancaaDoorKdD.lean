/- Trees, items and the kinds of both: part 4. No condition beyond what the theorems state. -/
import Derived.Test.YtjpopmgnhgancaaDoorKdC
namespace Go.Proofs.YtjpopmgnhgancaaDoor
open Go.RowKit Go.Lib
set_option maxRecDepth 100000
set_option maxHeartbeats 8000000
theorem nd_deep (k : Int) (n v : List UInt8) (A K : Option Addr) (np nk ac kc d : Nat) (w : World) (hT : tabs w) (hd : 64 < d) : Calls Tryd.prog 70 #[.agg #[.int .i64 k, .string (ba' n), .string (ba' v), .slice A np ac, .slice K nk kc], .int .i64 (d : Int)] w fun e w' => e = .returned (.bool false) ∧ Below w.heap.size w w' := by
  have HT := Lib.hid hT
  clear hT
  have gd : decide ((d : Int) > 64) = true := by simp; omega
  have gd2 : decide (64 < (d : Int)) = true := by simp; omega
  go_enter Tryd.func70, Tryd.ntmps70
  go_wp2
  go_ret
  exact ⟨rfl, by repeat (with_reducible (first | exact Below.refl _ _ | assumption | apply ba | apply bd | apply bdr | (refine bs ?_ (by first | assumption | (simp; done) | (simp; omega))) | (refine bt ?_ (by assumption))))⟩
theorem nd_other (k : Int) (n v : List UInt8) (A K : Option Addr) (np nk ac kc d : Nat) (w : World) (hT : tabs w) (hd : d ≤ 64) (k1 : k ≠ 1) (k2 : k ≠ 2) (k3 : k ≠ 3) (k4 : k ≠ 4) (k5 : k ≠ 5) : Calls Tryd.prog 70 #[.agg #[.int .i64 k, .string (ba' n), .string (ba' v), .slice A np ac, .slice K nk kc], .int .i64 (d : Int)] w fun e w' => e = .returned (.bool false) ∧ Below w.heap.size w w' := by
  have HT := Lib.hid hT
  clear hT
  have gd : decide ((d : Int) > 64) = false := by simp; omega
  have gd2 : decide (64 < (d : Int)) = false := by simp; omega
  have m1 : (k == 1) = false := by simpa using k1
  have m2 : (k == 2) = false := by simpa using k2
  have m3 : (k == 3) = false := by simpa using k3
  have m4 : (k == 4) = false := by simpa using k4
  have m5 : (k == 5) = false := by simpa using k5
  go_enter Tryd.func70, Tryd.ntmps70
  go_wp2
  go_ret
  exact ⟨rfl, by repeat (with_reducible (first | exact Below.refl _ _ | assumption | apply ba | apply bd | apply bdr | (refine bs ?_ (by first | assumption | (simp; done) | (simp; omega))) | (refine bt ?_ (by assumption))))⟩
theorem nd1_n (n v : List UInt8) (A K : Option Addr) (np nk ac kc d : Nat) (w : World) (hT : tabs w) (hd : d ≤ 64) (hn : n ≠ []) : Calls Tryd.prog 70 #[.agg #[.int .i64 1, .string (ba' n), .string (ba' v), .slice A np ac, .slice K nk kc], .int .i64 (d : Int)] w fun e w' => e = .returned (.bool false) ∧ Below w.heap.size w w' := by
  have HT := Lib.hid hT
  clear hT
  have gd : decide ((d : Int) > 64) = false := by simp; omega
  have gd2 : decide (64 < (d : Int)) = false := by simp; omega
  have gn := isN hn
  clear hn
  go_enter Tryd.func70, Tryd.ntmps70
  go_wp2
  go_ret
  exact ⟨rfl, by repeat (with_reducible (first | exact Below.refl _ _ | assumption | apply ba | apply bd | apply bdr | (refine bs ?_ (by first | assumption | (simp; done) | (simp; omega))) | (refine bt ?_ (by assumption))))⟩
theorem nd1_v (n v : List UInt8) (A K : Option Addr) (np nk ac kc d : Nat) (w : World) (hT : tabs w) (hd : d ≤ 64) (hn : n = []) (hv : v ≠ []) : Calls Tryd.prog 70 #[.agg #[.int .i64 1, .string (ba' n), .string (ba' v), .slice A np ac, .slice K nk kc], .int .i64 (d : Int)] w fun e w' => e = .returned (.bool false) ∧ Below w.heap.size w w' := by
  have HT := Lib.hid hT
  clear hT
  have gd : decide ((d : Int) > 64) = false := by simp; omega
  have gd2 : decide (64 < (d : Int)) = false := by simp; omega
  have gn := isE hn
  clear hn
  have gv := isN hv
  clear hv
  go_enter Tryd.func70, Tryd.ntmps70
  go_wp2
  go_ret
  exact ⟨rfl, by repeat (with_reducible (first | exact Below.refl _ _ | assumption | apply ba | apply bd | apply bdr | (refine bs ?_ (by first | assumption | (simp; done) | (simp; omega))) | (refine bt ?_ (by assumption))))⟩
theorem nd1_p (n v : List UInt8) (A K : Option Addr) (np nk ac kc d : Nat) (w : World) (hT : tabs w) (hd : d ≤ 64) (hn : n = []) (hv : v = []) (hnp : 0 < np) : Calls Tryd.prog 70 #[.agg #[.int .i64 1, .string (ba' n), .string (ba' v), .slice A np ac, .slice K nk kc], .int .i64 (d : Int)] w fun e w' => e = .returned (.bool false) ∧ Below w.heap.size w w' := by
  have HT := Lib.hid hT
  clear hT
  have gd : decide ((d : Int) > 64) = false := by simp; omega
  have gd2 : decide (64 < (d : Int)) = false := by simp; omega
  have gn := isE hn
  clear hn
  have gv := isE hv
  clear hv
  have g1 : ((np : Int) == 0) = false := by simp; omega
  have g2 : (np == 0) = false := by simp; omega
  have g3 : ¬ np = 0 := by omega
  go_enter Tryd.func70, Tryd.ntmps70
  go_wp2
  go_ret
  exact ⟨rfl, by repeat (with_reducible (first | exact Below.refl _ _ | assumption | apply ba | apply bd | apply bdr | (refine bs ?_ (by first | assumption | (simp; done) | (simp; omega))) | (refine bt ?_ (by assumption))))⟩
theorem nd1_k (n v : List UInt8) (A K : Option Addr) (nk ac kc d : Nat) (w : World) (hT : tabs w) (hd : d ≤ 64) (hn : n = []) (hv : v = []) (r : Bool) (HKD : Hid (∀ w1 : World, Below w.heap.size w w1 → Calls Tryd.prog 76 #[.slice K nk kc, .int .i64 ((d : Int) + 1)] w1 fun e w' => e = .returned (.bool r) ∧ Below w1.heap.size w1 w')) : Calls Tryd.prog 70 #[.agg #[.int .i64 1, .string (ba' n), .string (ba' v), .slice A 0 ac, .slice K nk kc], .int .i64 (d : Int)] w fun e w' => e = .returned (.bool r) ∧ Below w.heap.size w w' := by
  have HT := Lib.hid hT
  clear hT
  have gd : decide ((d : Int) > 64) = false := by simp; omega
  have gd2 : decide (64 < (d : Int)) = false := by simp; omega
  have gn := isE hn
  clear hn
  have gv := isE hv
  clear hv
  go_enter Tryd.func70, Tryd.ntmps70
  go_wp2_with (first
    | (go_at_call 76; go_must (refine (HKD.out _ (by repeat (with_reducible (first | exact Below.refl _ _ | assumption | apply ba | apply bd | apply bdr | (refine bs ?_ (by first | assumption | (simp; done) | (simp; omega))) | (refine bt ?_ (by assumption)))))).mono ?_); rintro e w4 ⟨rfl, hb4⟩; have hc4 := fun o => (bcell hb4).1 w.heap.size o (by first | assumption | (simp; done) | (simp; omega)); have z4 := zz hb4 (by first | assumption | (simp; done) | (simp; omega) : w.heap.size < _); have B4 : Below w.heap.size w w4 := by repeat (with_reducible (first | exact Below.refl _ _ | assumption | apply ba | apply bd | apply bdr | (refine bs ?_ (by first | assumption | (simp; done) | (simp; omega))) | (refine bt ?_ (by assumption))))))
  go_ret
  exact ⟨rfl, by repeat (with_reducible (first | exact Below.refl _ _ | assumption | apply ba | apply bd | apply bdr | (refine bs ?_ (by first | assumption | (simp; done) | (simp; omega))) | (refine bt ?_ (by assumption))))⟩
theorem nd2_n (n v : List UInt8) (A K : Option Addr) (np nk ac kc d : Nat) (w : World) (hT : tabs w) (hd : d ≤ 64) (HN : Hid (GTb 51 #[.string (ba' n)] (.bool false))) : Calls Tryd.prog 70 #[.agg #[.int .i64 2, .string (ba' n), .string (ba' v), .slice A np ac, .slice K nk kc], .int .i64 (d : Int)] w fun e w' => e = .returned (.bool false) ∧ Below w.heap.size w w' := by
  have HT := Lib.hid hT
  clear hT
  have gd : decide ((d : Int) > 64) = false := by simp; omega
  have gd2 : decide (64 < (d : Int)) = false := by simp; omega
  go_enter Tryd.func70, Tryd.ntmps70
  go_wp2_with (first
    | (go_at_call 51; go_must (refine (HN.out.call HT.out (by repeat (with_reducible (first | exact Below.refl _ _ | assumption | apply ba | apply bd | apply bdr | (refine bs ?_ (by first | assumption | (simp; done) | (simp; omega))) | (refine bt ?_ (by assumption)))))).mono ?_); rintro e w1 ⟨rfl, hb1⟩; have hc1 := fun o => (bcell hb1).1 w.heap.size o (by first | assumption | (simp; done) | (simp; omega)); have z1 := zz hb1 (by first | assumption | (simp; done) | (simp; omega) : w.heap.size < _); have B1 : Below w.heap.size w w1 := by repeat (with_reducible (first | exact Below.refl _ _ | assumption | apply ba | apply bd | apply bdr | (refine bs ?_ (by first | assumption | (simp; done) | (simp; omega))) | (refine bt ?_ (by assumption))))))
  go_ret
  exact ⟨rfl, by repeat (with_reducible (first | exact Below.refl _ _ | assumption | apply ba | apply bd | apply bdr | (refine bs ?_ (by first | assumption | (simp; done) | (simp; omega))) | (refine bt ?_ (by assumption))))⟩
theorem nd2_v (n v : List UInt8) (A K : Option Addr) (np nk ac kc d : Nat) (w : World) (hT : tabs w) (hd : d ≤ 64) (hv : v ≠ []) (HN : Hid (GTb 51 #[.string (ba' n)] (.bool true))) : Calls Tryd.prog 70 #[.agg #[.int .i64 2, .string (ba' n), .string (ba' v), .slice A np ac, .slice K nk kc], .int .i64 (d : Int)] w fun e w' => e = .returned (.bool false) ∧ Below w.heap.size w w' := by
  have HT := Lib.hid hT
  clear hT
  have gd : decide ((d : Int) > 64) = false := by simp; omega
  have gd2 : decide (64 < (d : Int)) = false := by simp; omega
  have gv := isN hv
  clear hv
  go_enter Tryd.func70, Tryd.ntmps70
  go_wp2_with (first
    | (go_at_call 51; go_must (refine (HN.out.call HT.out (by repeat (with_reducible (first | exact Below.refl _ _ | assumption | apply ba | apply bd | apply bdr | (refine bs ?_ (by first | assumption | (simp; done) | (simp; omega))) | (refine bt ?_ (by assumption)))))).mono ?_); rintro e w1 ⟨rfl, hb1⟩; have hc1 := fun o => (bcell hb1).1 w.heap.size o (by first | assumption | (simp; done) | (simp; omega)); have z1 := zz hb1 (by first | assumption | (simp; done) | (simp; omega) : w.heap.size < _); have B1 : Below w.heap.size w w1 := by repeat (with_reducible (first | exact Below.refl _ _ | assumption | apply ba | apply bd | apply bdr | (refine bs ?_ (by first | assumption | (simp; done) | (simp; omega))) | (refine bt ?_ (by assumption))))))
  go_ret
  exact ⟨rfl, by repeat (with_reducible (first | exact Below.refl _ _ | assumption | apply ba | apply bd | apply bdr | (refine bs ?_ (by first | assumption | (simp; done) | (simp; omega))) | (refine bt ?_ (by assumption))))⟩
theorem nd2_p (n v : List UInt8) (A K : Option Addr) (np nk ac kc d : Nat) (w : World) (hT : tabs w) (hd : d ≤ 64) (hv : v = []) (HN : Hid (GTb 51 #[.string (ba' n)] (.bool true))) (HPR : Hid (∀ w1 : World, Below w.heap.size w w1 → Calls Tryd.prog 77 #[.slice A np ac] w1 fun e w' => e = .returned (.bool false) ∧ Below w1.heap.size w1 w')) : Calls Tryd.prog 70 #[.agg #[.int .i64 2, .string (ba' n), .string (ba' v), .slice A np ac, .slice K nk kc], .int .i64 (d : Int)] w fun e w' => e = .returned (.bool false) ∧ Below w.heap.size w w' := by
  have HT := Lib.hid hT
  clear hT
  have gd : decide ((d : Int) > 64) = false := by simp; omega
  have gd2 : decide (64 < (d : Int)) = false := by simp; omega
  have gv := isE hv
  clear hv
  go_enter Tryd.func70, Tryd.ntmps70
  go_wp2_with (first
    | (go_at_call 51; go_must (refine (HN.out.call HT.out (by repeat (with_reducible (first | exact Below.refl _ _ | assumption | apply ba | apply bd | apply bdr | (refine bs ?_ (by first | assumption | (simp; done) | (simp; omega))) | (refine bt ?_ (by assumption)))))).mono ?_); rintro e w1 ⟨rfl, hb1⟩; have hc1 := fun o => (bcell hb1).1 w.heap.size o (by first | assumption | (simp; done) | (simp; omega)); have z1 := zz hb1 (by first | assumption | (simp; done) | (simp; omega) : w.heap.size < _); have B1 : Below w.heap.size w w1 := by repeat (with_reducible (first | exact Below.refl _ _ | assumption | apply ba | apply bd | apply bdr | (refine bs ?_ (by first | assumption | (simp; done) | (simp; omega))) | (refine bt ?_ (by assumption)))))
    | (go_at_call 77; go_must (refine (HPR.out _ (by repeat (with_reducible (first | exact Below.refl _ _ | assumption | apply ba | apply bd | apply bdr | (refine bs ?_ (by first | assumption | (simp; done) | (simp; omega))) | (refine bt ?_ (by assumption)))))).mono ?_); rintro e w3 ⟨rfl, hb3⟩; have hc3 := fun o => (bcell hb3).1 w.heap.size o (by first | assumption | (simp; done) | (simp; omega)); have z3 := zz hb3 (by first | assumption | (simp; done) | (simp; omega) : w.heap.size < _); have B3 : Below w.heap.size w w3 := by repeat (with_reducible (first | exact Below.refl _ _ | assumption | apply ba | apply bd | apply bdr | (refine bs ?_ (by first | assumption | (simp; done) | (simp; omega))) | (refine bt ?_ (by assumption))))))
  go_ret
  exact ⟨rfl, by repeat (with_reducible (first | exact Below.refl _ _ | assumption | apply ba | apply bd | apply bdr | (refine bs ?_ (by first | assumption | (simp; done) | (simp; omega))) | (refine bt ?_ (by assumption))))⟩
theorem nd2_k (n v : List UInt8) (A K : Option Addr) (np nk ac kc d : Nat) (w : World) (hT : tabs w) (hd : d ≤ 64) (hv : v = []) (HN : Hid (GTb 51 #[.string (ba' n)] (.bool true))) (HPR : Hid (∀ w1 : World, Below w.heap.size w w1 → Calls Tryd.prog 77 #[.slice A np ac] w1 fun e w' => e = .returned (.bool true) ∧ Below w1.heap.size w1 w')) (r : Bool) (HKD : Hid (∀ w1 : World, Below w.heap.size w w1 → Calls Tryd.prog 76 #[.slice K nk kc, .int .i64 ((d : Int) + 1)] w1 fun e w' => e = .returned (.bool r) ∧ Below w1.heap.size w1 w')) : Calls Tryd.prog 70 #[.agg #[.int .i64 2, .string (ba' n), .string (ba' v), .slice A np ac, .slice K nk kc], .int .i64 (d : Int)] w fun e w' => e = .returned (.bool r) ∧ Below w.heap.size w w' := by
  have HT := Lib.hid hT
  clear hT
  have gd : decide ((d : Int) > 64) = false := by simp; omega
  have gd2 : decide (64 < (d : Int)) = false := by simp; omega
  have gv := isE hv
  clear hv
  go_enter Tryd.func70, Tryd.ntmps70
  go_wp2_with (first
    | (go_at_call 51; go_must (refine (HN.out.call HT.out (by repeat (with_reducible (first | exact Below.refl _ _ | assumption | apply ba | apply bd | apply bdr | (refine bs ?_ (by first | assumption | (simp; done) | (simp; omega))) | (refine bt ?_ (by assumption)))))).mono ?_); rintro e w1 ⟨rfl, hb1⟩; have hc1 := fun o => (bcell hb1).1 w.heap.size o (by first | assumption | (simp; done) | (simp; omega)); have z1 := zz hb1 (by first | assumption | (simp; done) | (simp; omega) : w.heap.size < _); have B1 : Below w.heap.size w w1 := by repeat (with_reducible (first | exact Below.refl _ _ | assumption | apply ba | apply bd | apply bdr | (refine bs ?_ (by first | assumption | (simp; done) | (simp; omega))) | (refine bt ?_ (by assumption)))))
    | (go_at_call 77; go_must (refine (HPR.out _ (by repeat (with_reducible (first | exact Below.refl _ _ | assumption | apply ba | apply bd | apply bdr | (refine bs ?_ (by first | assumption | (simp; done) | (simp; omega))) | (refine bt ?_ (by assumption)))))).mono ?_); rintro e w3 ⟨rfl, hb3⟩; have hc3 := fun o => (bcell hb3).1 w.heap.size o (by first | assumption | (simp; done) | (simp; omega)); have z3 := zz hb3 (by first | assumption | (simp; done) | (simp; omega) : w.heap.size < _); have B3 : Below w.heap.size w w3 := by repeat (with_reducible (first | exact Below.refl _ _ | assumption | apply ba | apply bd | apply bdr | (refine bs ?_ (by first | assumption | (simp; done) | (simp; omega))) | (refine bt ?_ (by assumption)))))
    | (go_at_call 76; go_must (refine (HKD.out _ (by repeat (with_reducible (first | exact Below.refl _ _ | assumption | apply ba | apply bd | apply bdr | (refine bs ?_ (by first | assumption | (simp; done) | (simp; omega))) | (refine bt ?_ (by assumption)))))).mono ?_); rintro e w4 ⟨rfl, hb4⟩; have hc4 := fun o => (bcell hb4).1 w.heap.size o (by first | assumption | (simp; done) | (simp; omega)); have z4 := zz hb4 (by first | assumption | (simp; done) | (simp; omega) : w.heap.size < _); have B4 : Below w.heap.size w w4 := by repeat (with_reducible (first | exact Below.refl _ _ | assumption | apply ba | apply bd | apply bdr | (refine bs ?_ (by first | assumption | (simp; done) | (simp; omega))) | (refine bt ?_ (by assumption))))))
  go_ret
  exact ⟨rfl, by repeat (with_reducible (first | exact Below.refl _ _ | assumption | apply ba | apply bd | apply bdr | (refine bs ?_ (by first | assumption | (simp; done) | (simp; omega))) | (refine bt ?_ (by assumption))))⟩
theorem nd3_n (n v : List UInt8) (A K : Option Addr) (np nk ac kc d : Nat) (w : World) (hT : tabs w) (hd : d ≤ 64) (HN : Hid (GTb 51 #[.string (ba' n)] (.bool false))) : Calls Tryd.prog 70 #[.agg #[.int .i64 3, .string (ba' n), .string (ba' v), .slice A np ac, .slice K nk kc], .int .i64 (d : Int)] w fun e w' => e = .returned (.bool false) ∧ Below w.heap.size w w' := by
  have HT := Lib.hid hT
  clear hT
  have gd : decide ((d : Int) > 64) = false := by simp; omega
  have gd2 : decide (64 < (d : Int)) = false := by simp; omega
  go_enter Tryd.func70, Tryd.ntmps70
  go_wp2_with (first
    | (go_at_call 51; go_must (refine (HN.out.call HT.out (by repeat (with_reducible (first | exact Below.refl _ _ | assumption | apply ba | apply bd | apply bdr | (refine bs ?_ (by first | assumption | (simp; done) | (simp; omega))) | (refine bt ?_ (by assumption)))))).mono ?_); rintro e w1 ⟨rfl, hb1⟩; have hc1 := fun o => (bcell hb1).1 w.heap.size o (by first | assumption | (simp; done) | (simp; omega)); have z1 := zz hb1 (by first | assumption | (simp; done) | (simp; omega) : w.heap.size < _); have B1 : Below w.heap.size w w1 := by repeat (with_reducible (first | exact Below.refl _ _ | assumption | apply ba | apply bd | apply bdr | (refine bs ?_ (by first | assumption | (simp; done) | (simp; omega))) | (refine bt ?_ (by assumption))))))
  go_ret
  exact ⟨rfl, by repeat (with_reducible (first | exact Below.refl _ _ | assumption | apply ba | apply bd | apply bdr | (refine bs ?_ (by first | assumption | (simp; done) | (simp; omega))) | (refine bt ?_ (by assumption))))⟩
theorem nd3_v (n v : List UInt8) (A K : Option Addr) (np nk ac kc d : Nat) (w : World) (hT : tabs w) (hd : d ≤ 64) (HN : Hid (GTb 51 #[.string (ba' n)] (.bool true))) (HV : Hid (∀ (g cap : Nat) (w1 : World), tabs w1 → w1.cell? ⟨g, 0, none⟩ = some (.string (ba' v)) → g < w1.heap.size → Calls Tryd.prog 63 #[.slice (some ⟨g, 0, none⟩) 1 cap] w1 fun e w' => e = .returned (.bool false) ∧ Below w1.heap.size w1 w')) : Calls Tryd.prog 70 #[.agg #[.int .i64 3, .string (ba' n), .string (ba' v), .slice A np ac, .slice K nk kc], .int .i64 (d : Int)] w fun e w' => e = .returned (.bool false) ∧ Below w.heap.size w w' := by
  have HT := Lib.hid hT
  clear hT
  have gd : decide ((d : Int) > 64) = false := by simp; omega
  have gd2 : decide (64 < (d : Int)) = false := by simp; omega
  go_enter Tryd.func70, Tryd.ntmps70
  go_wp2_with (first
    | (go_at_call 51; go_must (refine (HN.out.call HT.out (by repeat (with_reducible (first | exact Below.refl _ _ | assumption | apply ba | apply bd | apply bdr | (refine bs ?_ (by first | assumption | (simp; done) | (simp; omega))) | (refine bt ?_ (by assumption)))))).mono ?_); rintro e w1 ⟨rfl, hb1⟩; have hc1 := fun o => (bcell hb1).1 w.heap.size o (by first | assumption | (simp; done) | (simp; omega)); have z1 := zz hb1 (by first | assumption | (simp; done) | (simp; omega) : w.heap.size < _); have B1 : Below w.heap.size w w1 := by repeat (with_reducible (first | exact Below.refl _ _ | assumption | apply ba | apply bd | apply bdr | (refine bs ?_ (by first | assumption | (simp; done) | (simp; omega))) | (refine bt ?_ (by assumption)))))
    | (go_at_call 63; go_must (refine (HV.out _ _ _ (Utf8Tabs_below HT.out (by repeat (with_reducible (first | exact Below.refl _ _ | assumption | apply ba | apply bd | apply bdr | (refine bs ?_ (by first | assumption | (simp; done) | (simp; omega))) | (refine bt ?_ (by assumption)))))) (by first | (simp; done) | (simp [*]; done)) (by simp)).mono ?_); rintro e w2 ⟨rfl, hb2⟩; have hc2 := fun o => (bcell hb2).1 w.heap.size o (by first | assumption | (simp; done) | (simp; omega)); have z2 := zz hb2 (by first | assumption | (simp; done) | (simp; omega) : w.heap.size < _); have B2 : Below w.heap.size w w2 := by repeat (with_reducible (first | exact Below.refl _ _ | assumption | apply ba | apply bd | apply bdr | (refine bs ?_ (by first | assumption | (simp; done) | (simp; omega))) | (refine bt ?_ (by assumption))))))
  go_ret
  exact ⟨rfl, by repeat (with_reducible (first | exact Below.refl _ _ | assumption | apply ba | apply bd | apply bdr | (refine bs ?_ (by first | assumption | (simp; done) | (simp; omega))) | (refine bt ?_ (by assumption))))⟩
theorem nd3_l (lf : Bool) (n v : List UInt8) (A K : Option Addr) (np nk ac kc d : Nat) (w : World) (hT : tabs w) (hd : d ≤ 64) (HN : Hid (GTb 51 #[.string (ba' n)] (.bool true))) (HV : Hid (∀ (g cap : Nat) (w1 : World), tabs w1 → w1.cell? ⟨g, 0, none⟩ = some (.string (ba' v)) → g < w1.heap.size → Calls Tryd.prog 63 #[.slice (some ⟨g, 0, none⟩) 1 cap] w1 fun e w' => e = .returned (.bool true) ∧ Below w1.heap.size w1 w')) (HLF : Hid (∀ w1 : World, Calls Tryd.prog 78 #[.agg #[.int .i64 3, .string (ba' n), .string (ba' v), .slice A np ac, .slice K nk kc]] w1 fun e w' => e = .returned (.bool lf) ∧ Below w1.heap.size w1 w')) : Calls Tryd.prog 70 #[.agg #[.int .i64 3, .string (ba' n), .string (ba' v), .slice A np ac, .slice K nk kc], .int .i64 (d : Int)] w fun e w' => e = .returned (.bool lf) ∧ Below w.heap.size w w' := by
  have HT := Lib.hid hT
  clear hT
  have gd : decide ((d : Int) > 64) = false := by simp; omega
  have gd2 : decide (64 < (d : Int)) = false := by simp; omega
  go_enter Tryd.func70, Tryd.ntmps70
  go_wp2_with (first
    | (go_at_call 51; go_must (refine (HN.out.call HT.out (by repeat (with_reducible (first | exact Below.refl _ _ | assumption | apply ba | apply bd | apply bdr | (refine bs ?_ (by first | assumption | (simp; done) | (simp; omega))) | (refine bt ?_ (by assumption)))))).mono ?_); rintro e w1 ⟨rfl, hb1⟩; have hc1 := fun o => (bcell hb1).1 w.heap.size o (by first | assumption | (simp; done) | (simp; omega)); have z1 := zz hb1 (by first | assumption | (simp; done) | (simp; omega) : w.heap.size < _); have B1 : Below w.heap.size w w1 := by repeat (with_reducible (first | exact Below.refl _ _ | assumption | apply ba | apply bd | apply bdr | (refine bs ?_ (by first | assumption | (simp; done) | (simp; omega))) | (refine bt ?_ (by assumption)))))
    | (go_at_call 63; go_must (refine (HV.out _ _ _ (Utf8Tabs_below HT.out (by repeat (with_reducible (first | exact Below.refl _ _ | assumption | apply ba | apply bd | apply bdr | (refine bs ?_ (by first | assumption | (simp; done) | (simp; omega))) | (refine bt ?_ (by assumption)))))) (by first | (simp; done) | (simp [*]; done)) (by simp)).mono ?_); rintro e w2 ⟨rfl, hb2⟩; have hc2 := fun o => (bcell hb2).1 w.heap.size o (by first | assumption | (simp; done) | (simp; omega)); have z2 := zz hb2 (by first | assumption | (simp; done) | (simp; omega) : w.heap.size < _); have B2 : Below w.heap.size w w2 := by repeat (with_reducible (first | exact Below.refl _ _ | assumption | apply ba | apply bd | apply bdr | (refine bs ?_ (by first | assumption | (simp; done) | (simp; omega))) | (refine bt ?_ (by assumption)))))
    | (go_at_call 78; go_must (refine (HLF.out _).mono ?_); rintro e w5 ⟨rfl, hb5⟩; have hc5 := fun o => (bcell hb5).1 w.heap.size o (by first | assumption | (simp; done) | (simp; omega)); have z5 := zz hb5 (by first | assumption | (simp; done) | (simp; omega) : w.heap.size < _); have B5 : Below w.heap.size w w5 := by repeat (with_reducible (first | exact Below.refl _ _ | assumption | apply ba | apply bd | apply bdr | (refine bs ?_ (by first | assumption | (simp; done) | (simp; omega))) | (refine bt ?_ (by assumption))))))
  go_ret
  exact ⟨rfl, by repeat (with_reducible (first | exact Below.refl _ _ | assumption | apply ba | apply bd | apply bdr | (refine bs ?_ (by first | assumption | (simp; done) | (simp; omega))) | (refine bt ?_ (by assumption))))⟩
theorem nd4_n (n v : List UInt8) (A K : Option Addr) (np nk ac kc d : Nat) (w : World) (hT : tabs w) (hd : d ≤ 64) (hn : n ≠ []) : Calls Tryd.prog 70 #[.agg #[.int .i64 4, .string (ba' n), .string (ba' v), .slice A np ac, .slice K nk kc], .int .i64 (d : Int)] w fun e w' => e = .returned (.bool false) ∧ Below w.heap.size w w' := by
  have HT := Lib.hid hT
  clear hT
  have gd : decide ((d : Int) > 64) = false := by simp; omega
  have gd2 : decide (64 < (d : Int)) = false := by simp; omega
  have gn := isN hn
  clear hn
  go_enter Tryd.func70, Tryd.ntmps70
  go_wp2
  go_ret
  exact ⟨rfl, by repeat (with_reducible (first | exact Below.refl _ _ | assumption | apply ba | apply bd | apply bdr | (refine bs ?_ (by first | assumption | (simp; done) | (simp; omega))) | (refine bt ?_ (by assumption))))⟩
theorem nd4_v (n v : List UInt8) (A K : Option Addr) (np nk ac kc d : Nat) (w : World) (hT : tabs w) (hd : d ≤ 64) (hn : n = []) (hv : v = []) : Calls Tryd.prog 70 #[.agg #[.int .i64 4, .string (ba' n), .string (ba' v), .slice A np ac, .slice K nk kc], .int .i64 (d : Int)] w fun e w' => e = .returned (.bool false) ∧ Below w.heap.size w w' := by
  have HT := Lib.hid hT
  clear hT
  have gd : decide ((d : Int) > 64) = false := by simp; omega
  have gd2 : decide (64 < (d : Int)) = false := by simp; omega
  have gn := isE hn
  clear hn
  have gv := isE hv
  clear hv
  go_enter Tryd.func70, Tryd.ntmps70
  go_wp2
  go_ret
  exact ⟨rfl, by repeat (with_reducible (first | exact Below.refl _ _ | assumption | apply ba | apply bd | apply bdr | (refine bs ?_ (by first | assumption | (simp; done) | (simp; omega))) | (refine bt ?_ (by assumption))))⟩
theorem nd4_x (n v : List UInt8) (A K : Option Addr) (np nk ac kc d : Nat) (w : World) (hT : tabs w) (hd : d ≤ 64) (hn : n = []) (hv : v ≠ []) (HV : Hid (∀ (g cap : Nat) (w1 : World), tabs w1 → w1.cell? ⟨g, 0, none⟩ = some (.string (ba' v)) → g < w1.heap.size → Calls Tryd.prog 63 #[.slice (some ⟨g, 0, none⟩) 1 cap] w1 fun e w' => e = .returned (.bool false) ∧ Below w1.heap.size w1 w')) : Calls Tryd.prog 70 #[.agg #[.int .i64 4, .string (ba' n), .string (ba' v), .slice A np ac, .slice K nk kc], .int .i64 (d : Int)] w fun e w' => e = .returned (.bool false) ∧ Below w.heap.size w w' := by
  have HT := Lib.hid hT
  clear hT
  have gd : decide ((d : Int) > 64) = false := by simp; omega
  have gd2 : decide (64 < (d : Int)) = false := by simp; omega
  have gn := isE hn
  clear hn
  have gv := isN hv
  clear hv
  go_enter Tryd.func70, Tryd.ntmps70
  go_wp2_with (first
    | (go_at_call 63; go_must (refine (HV.out _ _ _ (Utf8Tabs_below HT.out (by repeat (with_reducible (first | exact Below.refl _ _ | assumption | apply ba | apply bd | apply bdr | (refine bs ?_ (by first | assumption | (simp; done) | (simp; omega))) | (refine bt ?_ (by assumption)))))) (by first | (simp; done) | (simp [*]; done)) (by simp)).mono ?_); rintro e w2 ⟨rfl, hb2⟩; have hc2 := fun o => (bcell hb2).1 w.heap.size o (by first | assumption | (simp; done) | (simp; omega)); have z2 := zz hb2 (by first | assumption | (simp; done) | (simp; omega) : w.heap.size < _); have B2 : Below w.heap.size w w2 := by repeat (with_reducible (first | exact Below.refl _ _ | assumption | apply ba | apply bd | apply bdr | (refine bs ?_ (by first | assumption | (simp; done) | (simp; omega))) | (refine bt ?_ (by assumption))))))
  go_ret
  exact ⟨rfl, by repeat (with_reducible (first | exact Below.refl _ _ | assumption | apply ba | apply bd | apply bdr | (refine bs ?_ (by first | assumption | (simp; done) | (simp; omega))) | (refine bt ?_ (by assumption))))⟩
theorem nd4_l (lf : Bool) (n v : List UInt8) (A K : Option Addr) (np nk ac kc d : Nat) (w : World) (hT : tabs w) (hd : d ≤ 64) (hn : n = []) (hv : v ≠ []) (HV : Hid (∀ (g cap : Nat) (w1 : World), tabs w1 → w1.cell? ⟨g, 0, none⟩ = some (.string (ba' v)) → g < w1.heap.size → Calls Tryd.prog 63 #[.slice (some ⟨g, 0, none⟩) 1 cap] w1 fun e w' => e = .returned (.bool true) ∧ Below w1.heap.size w1 w')) (HLF : Hid (∀ w1 : World, Calls Tryd.prog 78 #[.agg #[.int .i64 4, .string (ba' n), .string (ba' v), .slice A np ac, .slice K nk kc]] w1 fun e w' => e = .returned (.bool lf) ∧ Below w1.heap.size w1 w')) : Calls Tryd.prog 70 #[.agg #[.int .i64 4, .string (ba' n), .string (ba' v), .slice A np ac, .slice K nk kc], .int .i64 (d : Int)] w fun e w' => e = .returned (.bool lf) ∧ Below w.heap.size w w' := by
  have HT := Lib.hid hT
  clear hT
  have gd : decide ((d : Int) > 64) = false := by simp; omega
  have gd2 : decide (64 < (d : Int)) = false := by simp; omega
  have gn := isE hn
  clear hn
  have gv := isN hv
  clear hv
  go_enter Tryd.func70, Tryd.ntmps70
  go_wp2_with (first
    | (go_at_call 63; go_must (refine (HV.out _ _ _ (Utf8Tabs_below HT.out (by repeat (with_reducible (first | exact Below.refl _ _ | assumption | apply ba | apply bd | apply bdr | (refine bs ?_ (by first | assumption | (simp; done) | (simp; omega))) | (refine bt ?_ (by assumption)))))) (by first | (simp; done) | (simp [*]; done)) (by simp)).mono ?_); rintro e w2 ⟨rfl, hb2⟩; have hc2 := fun o => (bcell hb2).1 w.heap.size o (by first | assumption | (simp; done) | (simp; omega)); have z2 := zz hb2 (by first | assumption | (simp; done) | (simp; omega) : w.heap.size < _); have B2 : Below w.heap.size w w2 := by repeat (with_reducible (first | exact Below.refl _ _ | assumption | apply ba | apply bd | apply bdr | (refine bs ?_ (by first | assumption | (simp; done) | (simp; omega))) | (refine bt ?_ (by assumption)))))
    | (go_at_call 78; go_must (refine (HLF.out _).mono ?_); rintro e w5 ⟨rfl, hb5⟩; have hc5 := fun o => (bcell hb5).1 w.heap.size o (by first | assumption | (simp; done) | (simp; omega)); have z5 := zz hb5 (by first | assumption | (simp; done) | (simp; omega) : w.heap.size < _); have B5 : Below w.heap.size w w5 := by repeat (with_reducible (first | exact Below.refl _ _ | assumption | apply ba | apply bd | apply bdr | (refine bs ?_ (by first | assumption | (simp; done) | (simp; omega))) | (refine bt ?_ (by assumption))))))
  go_ret
  exact ⟨rfl, by repeat (with_reducible (first | exact Below.refl _ _ | assumption | apply ba | apply bd | apply bdr | (refine bs ?_ (by first | assumption | (simp; done) | (simp; omega))) | (refine bt ?_ (by assumption))))⟩
theorem nd5_n (n v : List UInt8) (A K : Option Addr) (np nk ac kc d : Nat) (w : World) (hT : tabs w) (hd : d ≤ 64) (hn : n ≠ []) : Calls Tryd.prog 70 #[.agg #[.int .i64 5, .string (ba' n), .string (ba' v), .slice A np ac, .slice K nk kc], .int .i64 (d : Int)] w fun e w' => e = .returned (.bool false) ∧ Below w.heap.size w w' := by
  have HT := Lib.hid hT
  clear hT
  have gd : decide ((d : Int) > 64) = false := by simp; omega
  have gd2 : decide (64 < (d : Int)) = false := by simp; omega
  have gn := isN hn
  clear hn
  go_enter Tryd.func70, Tryd.ntmps70
  go_wp2
  go_ret
  exact ⟨rfl, by repeat (with_reducible (first | exact Below.refl _ _ | assumption | apply ba | apply bd | apply bdr | (refine bs ?_ (by first | assumption | (simp; done) | (simp; omega))) | (refine bt ?_ (by assumption))))⟩
theorem nd5_x (n v : List UInt8) (A K : Option Addr) (np nk ac kc d : Nat) (w : World) (hT : tabs w) (hd : d ≤ 64) (hn : n = []) (HV : Hid (∀ (g cap : Nat) (w1 : World), tabs w1 → w1.cell? ⟨g, 0, none⟩ = some (.string (ba' v)) → g < w1.heap.size → Calls Tryd.prog 63 #[.slice (some ⟨g, 0, none⟩) 1 cap] w1 fun e w' => e = .returned (.bool false) ∧ Below w1.heap.size w1 w')) : Calls Tryd.prog 70 #[.agg #[.int .i64 5, .string (ba' n), .string (ba' v), .slice A np ac, .slice K nk kc], .int .i64 (d : Int)] w fun e w' => e = .returned (.bool false) ∧ Below w.heap.size w w' := by
  have HT := Lib.hid hT
  clear hT
  have gd : decide ((d : Int) > 64) = false := by simp; omega
  have gd2 : decide (64 < (d : Int)) = false := by simp; omega
  have gn := isE hn
  clear hn
  go_enter Tryd.func70, Tryd.ntmps70
  go_wp2_with (first
    | (go_at_call 63; go_must (refine (HV.out _ _ _ (Utf8Tabs_below HT.out (by repeat (with_reducible (first | exact Below.refl _ _ | assumption | apply ba | apply bd | apply bdr | (refine bs ?_ (by first | assumption | (simp; done) | (simp; omega))) | (refine bt ?_ (by assumption)))))) (by first | (simp; done) | (simp [*]; done)) (by simp)).mono ?_); rintro e w2 ⟨rfl, hb2⟩; have hc2 := fun o => (bcell hb2).1 w.heap.size o (by first | assumption | (simp; done) | (simp; omega)); have z2 := zz hb2 (by first | assumption | (simp; done) | (simp; omega) : w.heap.size < _); have B2 : Below w.heap.size w w2 := by repeat (with_reducible (first | exact Below.refl _ _ | assumption | apply ba | apply bd | apply bdr | (refine bs ?_ (by first | assumption | (simp; done) | (simp; omega))) | (refine bt ?_ (by assumption))))))
  go_ret
  exact ⟨rfl, by repeat (with_reducible (first | exact Below.refl _ _ | assumption | apply ba | apply bd | apply bdr | (refine bs ?_ (by first | assumption | (simp; done) | (simp; omega))) | (refine bt ?_ (by assumption))))⟩
theorem nd5_l (lf : Bool) (n v : List UInt8) (A K : Option Addr) (np nk ac kc d : Nat) (w : World) (hT : tabs w) (hd : d ≤ 64) (hn : n = []) (HV : Hid (∀ (g cap : Nat) (w1 : World), tabs w1 → w1.cell? ⟨g, 0, none⟩ = some (.string (ba' v)) → g < w1.heap.size → Calls Tryd.prog 63 #[.slice (some ⟨g, 0, none⟩) 1 cap] w1 fun e w' => e = .returned (.bool true) ∧ Below w1.heap.size w1 w')) (HLF : Hid (∀ w1 : World, Calls Tryd.prog 78 #[.agg #[.int .i64 5, .string (ba' n), .string (ba' v), .slice A np ac, .slice K nk kc]] w1 fun e w' => e = .returned (.bool lf) ∧ Below w1.heap.size w1 w')) : Calls Tryd.prog 70 #[.agg #[.int .i64 5, .string (ba' n), .string (ba' v), .slice A np ac, .slice K nk kc], .int .i64 (d : Int)] w fun e w' => e = .returned (.bool lf) ∧ Below w.heap.size w w' := by
  have HT := Lib.hid hT
  clear hT
  have gd : decide ((d : Int) > 64) = false := by simp; omega
  have gd2 : decide (64 < (d : Int)) = false := by simp; omega
  have gn := isE hn
  clear hn
  go_enter Tryd.func70, Tryd.ntmps70
  go_wp2_with (first
    | (go_at_call 63; go_must (refine (HV.out _ _ _ (Utf8Tabs_below HT.out (by repeat (with_reducible (first | exact Below.refl _ _ | assumption | apply ba | apply bd | apply bdr | (refine bs ?_ (by first | assumption | (simp; done) | (simp; omega))) | (refine bt ?_ (by assumption)))))) (by first | (simp; done) | (simp [*]; done)) (by simp)).mono ?_); rintro e w2 ⟨rfl, hb2⟩; have hc2 := fun o => (bcell hb2).1 w.heap.size o (by first | assumption | (simp; done) | (simp; omega)); have z2 := zz hb2 (by first | assumption | (simp; done) | (simp; omega) : w.heap.size < _); have B2 : Below w.heap.size w w2 := by repeat (with_reducible (first | exact Below.refl _ _ | assumption | apply ba | apply bd | apply bdr | (refine bs ?_ (by first | assumption | (simp; done) | (simp; omega))) | (refine bt ?_ (by assumption)))))
    | (go_at_call 78; go_must (refine (HLF.out _).mono ?_); rintro e w5 ⟨rfl, hb5⟩; have hc5 := fun o => (bcell hb5).1 w.heap.size o (by first | assumption | (simp; done) | (simp; omega)); have z5 := zz hb5 (by first | assumption | (simp; done) | (simp; omega) : w.heap.size < _); have B5 : Below w.heap.size w w5 := by repeat (with_reducible (first | exact Below.refl _ _ | assumption | apply ba | apply bd | apply bdr | (refine bs ?_ (by first | assumption | (simp; done) | (simp; omega))) | (refine bt ?_ (by assumption))))))
  go_ret
  exact ⟨rfl, by repeat (with_reducible (first | exact Below.refl _ _ | assumption | apply ba | apply bd | apply bdr | (refine bs ?_ (by first | assumption | (simp; done) | (simp; omega))) | (refine bt ?_ (by assumption))))⟩
end Go.Proofs.YtjpopmgnhgancaaDoor
