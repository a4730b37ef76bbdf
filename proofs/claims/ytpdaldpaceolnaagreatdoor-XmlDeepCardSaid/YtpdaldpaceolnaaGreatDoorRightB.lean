/- Right trees, in the program. No condition beyond what the theorems state. -/
import Derived.Test.YtpdaldpaceolnaaGreatDoorRightA
namespace Go.Proofs.YtpdaldpaceolnaaGreatDoor
open Go.RowKit Go.Lib
set_option maxRecDepth 100000
set_option maxHeartbeats 8000000
theorem nd_deep (k : Int) (n v : List UInt8) (A K : Option Addr) (np nk ac kc d : Nat) (w : World) (hT : tabs w) (hd : 64 < d) : Calls Tryz.prog 22 #[.agg #[.int .i64 k, .string (ba' n), .string (ba' v), .slice A np ac, .slice K nk kc], .int .i64 (d : Int)] w fun e w' => e = .returned (.bool false) ∧ Below w.heap.size w w' := by
  have HT := Lib.hid hT
  clear hT
  have gd : decide ((d : Int) > 64) = true := by simp; omega
  have gd2 : decide (64 < (d : Int)) = true := by simp; omega
  go_enter Tryz.func22, Tryz.ntmps22
  go_wp2
  go_ret
  exact ⟨rfl, by repeat (with_reducible (first | exact Below.refl _ _ | assumption | apply ba | apply bd | apply bdr | (refine bs ?_ (by first | assumption | (simp; done) | (simp; omega))) | (refine bt ?_ (by assumption))))⟩
theorem nd_other (k : Int) (n v : List UInt8) (A K : Option Addr) (np nk ac kc d : Nat) (w : World) (hT : tabs w) (hd : d ≤ 64) (k1 : k ≠ 1) (k2 : k ≠ 2) (k3 : k ≠ 3) (k4 : k ≠ 4) (k5 : k ≠ 5) : Calls Tryz.prog 22 #[.agg #[.int .i64 k, .string (ba' n), .string (ba' v), .slice A np ac, .slice K nk kc], .int .i64 (d : Int)] w fun e w' => e = .returned (.bool false) ∧ Below w.heap.size w w' := by
  have HT := Lib.hid hT
  clear hT
  have gd : decide ((d : Int) > 64) = false := by simp; omega
  have gd2 : decide (64 < (d : Int)) = false := by simp; omega
  have m1 : (k == 1) = false := by simpa using k1
  have m2 : (k == 2) = false := by simpa using k2
  have m3 : (k == 3) = false := by simpa using k3
  have m4 : (k == 4) = false := by simpa using k4
  have m5 : (k == 5) = false := by simpa using k5
  go_enter Tryz.func22, Tryz.ntmps22
  go_wp2
  go_ret
  exact ⟨rfl, by repeat (with_reducible (first | exact Below.refl _ _ | assumption | apply ba | apply bd | apply bdr | (refine bs ?_ (by first | assumption | (simp; done) | (simp; omega))) | (refine bt ?_ (by assumption))))⟩
theorem nd1_n (n v : List UInt8) (A K : Option Addr) (np nk ac kc d : Nat) (w : World) (hT : tabs w) (hd : d ≤ 64) (hn : n ≠ []) : Calls Tryz.prog 22 #[.agg #[.int .i64 1, .string (ba' n), .string (ba' v), .slice A np ac, .slice K nk kc], .int .i64 (d : Int)] w fun e w' => e = .returned (.bool false) ∧ Below w.heap.size w w' := by
  have HT := Lib.hid hT
  clear hT
  have gd : decide ((d : Int) > 64) = false := by simp; omega
  have gd2 : decide (64 < (d : Int)) = false := by simp; omega
  have gn := isN hn
  clear hn
  go_enter Tryz.func22, Tryz.ntmps22
  go_wp2
  go_ret
  exact ⟨rfl, by repeat (with_reducible (first | exact Below.refl _ _ | assumption | apply ba | apply bd | apply bdr | (refine bs ?_ (by first | assumption | (simp; done) | (simp; omega))) | (refine bt ?_ (by assumption))))⟩
theorem nd1_v (n v : List UInt8) (A K : Option Addr) (np nk ac kc d : Nat) (w : World) (hT : tabs w) (hd : d ≤ 64) (hn : n = []) (hv : v ≠ []) : Calls Tryz.prog 22 #[.agg #[.int .i64 1, .string (ba' n), .string (ba' v), .slice A np ac, .slice K nk kc], .int .i64 (d : Int)] w fun e w' => e = .returned (.bool false) ∧ Below w.heap.size w w' := by
  have HT := Lib.hid hT
  clear hT
  have gd : decide ((d : Int) > 64) = false := by simp; omega
  have gd2 : decide (64 < (d : Int)) = false := by simp; omega
  have gn := isE hn
  clear hn
  have gv := isN hv
  clear hv
  go_enter Tryz.func22, Tryz.ntmps22
  go_wp2
  go_ret
  exact ⟨rfl, by repeat (with_reducible (first | exact Below.refl _ _ | assumption | apply ba | apply bd | apply bdr | (refine bs ?_ (by first | assumption | (simp; done) | (simp; omega))) | (refine bt ?_ (by assumption))))⟩
theorem nd1_p (n v : List UInt8) (A K : Option Addr) (np nk ac kc d : Nat) (w : World) (hT : tabs w) (hd : d ≤ 64) (hn : n = []) (hv : v = []) (hnp : 0 < np) : Calls Tryz.prog 22 #[.agg #[.int .i64 1, .string (ba' n), .string (ba' v), .slice A np ac, .slice K nk kc], .int .i64 (d : Int)] w fun e w' => e = .returned (.bool false) ∧ Below w.heap.size w w' := by
  have HT := Lib.hid hT
  clear hT
  have gd : decide ((d : Int) > 64) = false := by simp; omega
  have gd2 : decide (64 < (d : Int)) = false := by simp; omega
  have gn := isE hn
  clear hn
  have gv := isE hv
  clear hv
  have g1 : ((np : Int) == 0) = false := by simp; omega
  have g2 : (np == 0) = false := by simp; omega
  have g3 : ¬ np = 0 := by omega
  go_enter Tryz.func22, Tryz.ntmps22
  go_wp2
  go_ret
  exact ⟨rfl, by repeat (with_reducible (first | exact Below.refl _ _ | assumption | apply ba | apply bd | apply bdr | (refine bs ?_ (by first | assumption | (simp; done) | (simp; omega))) | (refine bt ?_ (by assumption))))⟩
theorem nd1_k (n v : List UInt8) (A K : Option Addr) (nk ac kc d : Nat) (w : World) (hT : tabs w) (hd : d ≤ 64) (hn : n = []) (hv : v = []) (r : Bool) (HKD : Hid (∀ w1 : World, Below w.heap.size w w1 → Calls Tryz.prog 39 #[.slice K nk kc, .int .i64 ((d : Int) + 1)] w1 fun e w' => e = .returned (.bool r) ∧ Below w1.heap.size w1 w')) : Calls Tryz.prog 22 #[.agg #[.int .i64 1, .string (ba' n), .string (ba' v), .slice A 0 ac, .slice K nk kc], .int .i64 (d : Int)] w fun e w' => e = .returned (.bool r) ∧ Below w.heap.size w w' := by
  have HT := Lib.hid hT
  clear hT
  have gd : decide ((d : Int) > 64) = false := by simp; omega
  have gd2 : decide (64 < (d : Int)) = false := by simp; omega
  have gn := isE hn
  clear hn
  have gv := isE hv
  clear hv
  go_enter Tryz.func22, Tryz.ntmps22
  go_wp2_with (first
    | (go_at_call 39; go_must (refine (HKD.out _ (by repeat (with_reducible (first | exact Below.refl _ _ | assumption | apply ba | apply bd | apply bdr | (refine bs ?_ (by first | assumption | (simp; done) | (simp; omega))) | (refine bt ?_ (by assumption)))))).mono ?_); rintro e w4 ⟨rfl, hb4⟩; have hc4 := fun o => (bcell hb4).1 w.heap.size o (by first | assumption | (simp; done) | (simp; omega)); have z4 := zz hb4 (by first | assumption | (simp; done) | (simp; omega) : w.heap.size < _); have B4 : Below w.heap.size w w4 := by repeat (with_reducible (first | exact Below.refl _ _ | assumption | apply ba | apply bd | apply bdr | (refine bs ?_ (by first | assumption | (simp; done) | (simp; omega))) | (refine bt ?_ (by assumption))))))
  go_ret
  exact ⟨rfl, by repeat (with_reducible (first | exact Below.refl _ _ | assumption | apply ba | apply bd | apply bdr | (refine bs ?_ (by first | assumption | (simp; done) | (simp; omega))) | (refine bt ?_ (by assumption))))⟩
theorem nd2_n (n v : List UInt8) (A K : Option Addr) (np nk ac kc d : Nat) (w : World) (hT : tabs w) (hd : d ≤ 64) (HN : Hid (GTb 40 #[.string (ba' n)] (.bool false))) : Calls Tryz.prog 22 #[.agg #[.int .i64 2, .string (ba' n), .string (ba' v), .slice A np ac, .slice K nk kc], .int .i64 (d : Int)] w fun e w' => e = .returned (.bool false) ∧ Below w.heap.size w w' := by
  have HT := Lib.hid hT
  clear hT
  have gd : decide ((d : Int) > 64) = false := by simp; omega
  have gd2 : decide (64 < (d : Int)) = false := by simp; omega
  go_enter Tryz.func22, Tryz.ntmps22
  go_wp2_with (first
    | (go_at_call 40; go_must (refine (HN.out.call HT.out (by repeat (with_reducible (first | exact Below.refl _ _ | assumption | apply ba | apply bd | apply bdr | (refine bs ?_ (by first | assumption | (simp; done) | (simp; omega))) | (refine bt ?_ (by assumption)))))).mono ?_); rintro e w1 ⟨rfl, hb1⟩; have hc1 := fun o => (bcell hb1).1 w.heap.size o (by first | assumption | (simp; done) | (simp; omega)); have z1 := zz hb1 (by first | assumption | (simp; done) | (simp; omega) : w.heap.size < _); have B1 : Below w.heap.size w w1 := by repeat (with_reducible (first | exact Below.refl _ _ | assumption | apply ba | apply bd | apply bdr | (refine bs ?_ (by first | assumption | (simp; done) | (simp; omega))) | (refine bt ?_ (by assumption))))))
  go_ret
  exact ⟨rfl, by repeat (with_reducible (first | exact Below.refl _ _ | assumption | apply ba | apply bd | apply bdr | (refine bs ?_ (by first | assumption | (simp; done) | (simp; omega))) | (refine bt ?_ (by assumption))))⟩
theorem nd2_v (n v : List UInt8) (A K : Option Addr) (np nk ac kc d : Nat) (w : World) (hT : tabs w) (hd : d ≤ 64) (hv : v ≠ []) (HN : Hid (GTb 40 #[.string (ba' n)] (.bool true))) : Calls Tryz.prog 22 #[.agg #[.int .i64 2, .string (ba' n), .string (ba' v), .slice A np ac, .slice K nk kc], .int .i64 (d : Int)] w fun e w' => e = .returned (.bool false) ∧ Below w.heap.size w w' := by
  have HT := Lib.hid hT
  clear hT
  have gd : decide ((d : Int) > 64) = false := by simp; omega
  have gd2 : decide (64 < (d : Int)) = false := by simp; omega
  have gv := isN hv
  clear hv
  go_enter Tryz.func22, Tryz.ntmps22
  go_wp2_with (first
    | (go_at_call 40; go_must (refine (HN.out.call HT.out (by repeat (with_reducible (first | exact Below.refl _ _ | assumption | apply ba | apply bd | apply bdr | (refine bs ?_ (by first | assumption | (simp; done) | (simp; omega))) | (refine bt ?_ (by assumption)))))).mono ?_); rintro e w1 ⟨rfl, hb1⟩; have hc1 := fun o => (bcell hb1).1 w.heap.size o (by first | assumption | (simp; done) | (simp; omega)); have z1 := zz hb1 (by first | assumption | (simp; done) | (simp; omega) : w.heap.size < _); have B1 : Below w.heap.size w w1 := by repeat (with_reducible (first | exact Below.refl _ _ | assumption | apply ba | apply bd | apply bdr | (refine bs ?_ (by first | assumption | (simp; done) | (simp; omega))) | (refine bt ?_ (by assumption))))))
  go_ret
  exact ⟨rfl, by repeat (with_reducible (first | exact Below.refl _ _ | assumption | apply ba | apply bd | apply bdr | (refine bs ?_ (by first | assumption | (simp; done) | (simp; omega))) | (refine bt ?_ (by assumption))))⟩
theorem nd2_p (n v : List UInt8) (A K : Option Addr) (np nk ac kc d : Nat) (w : World) (hT : tabs w) (hd : d ≤ 64) (hv : v = []) (HN : Hid (GTb 40 #[.string (ba' n)] (.bool true))) (HPR : Hid (∀ w1 : World, Below w.heap.size w w1 → Calls Tryz.prog 41 #[.slice A np ac] w1 fun e w' => e = .returned (.bool false) ∧ Below w1.heap.size w1 w')) : Calls Tryz.prog 22 #[.agg #[.int .i64 2, .string (ba' n), .string (ba' v), .slice A np ac, .slice K nk kc], .int .i64 (d : Int)] w fun e w' => e = .returned (.bool false) ∧ Below w.heap.size w w' := by
  have HT := Lib.hid hT
  clear hT
  have gd : decide ((d : Int) > 64) = false := by simp; omega
  have gd2 : decide (64 < (d : Int)) = false := by simp; omega
  have gv := isE hv
  clear hv
  go_enter Tryz.func22, Tryz.ntmps22
  go_wp2_with (first
    | (go_at_call 40; go_must (refine (HN.out.call HT.out (by repeat (with_reducible (first | exact Below.refl _ _ | assumption | apply ba | apply bd | apply bdr | (refine bs ?_ (by first | assumption | (simp; done) | (simp; omega))) | (refine bt ?_ (by assumption)))))).mono ?_); rintro e w1 ⟨rfl, hb1⟩; have hc1 := fun o => (bcell hb1).1 w.heap.size o (by first | assumption | (simp; done) | (simp; omega)); have z1 := zz hb1 (by first | assumption | (simp; done) | (simp; omega) : w.heap.size < _); have B1 : Below w.heap.size w w1 := by repeat (with_reducible (first | exact Below.refl _ _ | assumption | apply ba | apply bd | apply bdr | (refine bs ?_ (by first | assumption | (simp; done) | (simp; omega))) | (refine bt ?_ (by assumption)))))
    | (go_at_call 41; go_must (refine (HPR.out _ (by repeat (with_reducible (first | exact Below.refl _ _ | assumption | apply ba | apply bd | apply bdr | (refine bs ?_ (by first | assumption | (simp; done) | (simp; omega))) | (refine bt ?_ (by assumption)))))).mono ?_); rintro e w3 ⟨rfl, hb3⟩; have hc3 := fun o => (bcell hb3).1 w.heap.size o (by first | assumption | (simp; done) | (simp; omega)); have z3 := zz hb3 (by first | assumption | (simp; done) | (simp; omega) : w.heap.size < _); have B3 : Below w.heap.size w w3 := by repeat (with_reducible (first | exact Below.refl _ _ | assumption | apply ba | apply bd | apply bdr | (refine bs ?_ (by first | assumption | (simp; done) | (simp; omega))) | (refine bt ?_ (by assumption))))))
  go_ret
  exact ⟨rfl, by repeat (with_reducible (first | exact Below.refl _ _ | assumption | apply ba | apply bd | apply bdr | (refine bs ?_ (by first | assumption | (simp; done) | (simp; omega))) | (refine bt ?_ (by assumption))))⟩
theorem nd2_k (n v : List UInt8) (A K : Option Addr) (np nk ac kc d : Nat) (w : World) (hT : tabs w) (hd : d ≤ 64) (hv : v = []) (HN : Hid (GTb 40 #[.string (ba' n)] (.bool true))) (HPR : Hid (∀ w1 : World, Below w.heap.size w w1 → Calls Tryz.prog 41 #[.slice A np ac] w1 fun e w' => e = .returned (.bool true) ∧ Below w1.heap.size w1 w')) (r : Bool) (HKD : Hid (∀ w1 : World, Below w.heap.size w w1 → Calls Tryz.prog 39 #[.slice K nk kc, .int .i64 ((d : Int) + 1)] w1 fun e w' => e = .returned (.bool r) ∧ Below w1.heap.size w1 w')) : Calls Tryz.prog 22 #[.agg #[.int .i64 2, .string (ba' n), .string (ba' v), .slice A np ac, .slice K nk kc], .int .i64 (d : Int)] w fun e w' => e = .returned (.bool r) ∧ Below w.heap.size w w' := by
  have HT := Lib.hid hT
  clear hT
  have gd : decide ((d : Int) > 64) = false := by simp; omega
  have gd2 : decide (64 < (d : Int)) = false := by simp; omega
  have gv := isE hv
  clear hv
  go_enter Tryz.func22, Tryz.ntmps22
  go_wp2_with (first
    | (go_at_call 40; go_must (refine (HN.out.call HT.out (by repeat (with_reducible (first | exact Below.refl _ _ | assumption | apply ba | apply bd | apply bdr | (refine bs ?_ (by first | assumption | (simp; done) | (simp; omega))) | (refine bt ?_ (by assumption)))))).mono ?_); rintro e w1 ⟨rfl, hb1⟩; have hc1 := fun o => (bcell hb1).1 w.heap.size o (by first | assumption | (simp; done) | (simp; omega)); have z1 := zz hb1 (by first | assumption | (simp; done) | (simp; omega) : w.heap.size < _); have B1 : Below w.heap.size w w1 := by repeat (with_reducible (first | exact Below.refl _ _ | assumption | apply ba | apply bd | apply bdr | (refine bs ?_ (by first | assumption | (simp; done) | (simp; omega))) | (refine bt ?_ (by assumption)))))
    | (go_at_call 41; go_must (refine (HPR.out _ (by repeat (with_reducible (first | exact Below.refl _ _ | assumption | apply ba | apply bd | apply bdr | (refine bs ?_ (by first | assumption | (simp; done) | (simp; omega))) | (refine bt ?_ (by assumption)))))).mono ?_); rintro e w3 ⟨rfl, hb3⟩; have hc3 := fun o => (bcell hb3).1 w.heap.size o (by first | assumption | (simp; done) | (simp; omega)); have z3 := zz hb3 (by first | assumption | (simp; done) | (simp; omega) : w.heap.size < _); have B3 : Below w.heap.size w w3 := by repeat (with_reducible (first | exact Below.refl _ _ | assumption | apply ba | apply bd | apply bdr | (refine bs ?_ (by first | assumption | (simp; done) | (simp; omega))) | (refine bt ?_ (by assumption)))))
    | (go_at_call 39; go_must (refine (HKD.out _ (by repeat (with_reducible (first | exact Below.refl _ _ | assumption | apply ba | apply bd | apply bdr | (refine bs ?_ (by first | assumption | (simp; done) | (simp; omega))) | (refine bt ?_ (by assumption)))))).mono ?_); rintro e w4 ⟨rfl, hb4⟩; have hc4 := fun o => (bcell hb4).1 w.heap.size o (by first | assumption | (simp; done) | (simp; omega)); have z4 := zz hb4 (by first | assumption | (simp; done) | (simp; omega) : w.heap.size < _); have B4 : Below w.heap.size w w4 := by repeat (with_reducible (first | exact Below.refl _ _ | assumption | apply ba | apply bd | apply bdr | (refine bs ?_ (by first | assumption | (simp; done) | (simp; omega))) | (refine bt ?_ (by assumption))))))
  go_ret
  exact ⟨rfl, by repeat (with_reducible (first | exact Below.refl _ _ | assumption | apply ba | apply bd | apply bdr | (refine bs ?_ (by first | assumption | (simp; done) | (simp; omega))) | (refine bt ?_ (by assumption))))⟩
theorem nd3_n (n v : List UInt8) (A K : Option Addr) (np nk ac kc d : Nat) (w : World) (hT : tabs w) (hd : d ≤ 64) (HN : Hid (GTb 40 #[.string (ba' n)] (.bool false))) : Calls Tryz.prog 22 #[.agg #[.int .i64 3, .string (ba' n), .string (ba' v), .slice A np ac, .slice K nk kc], .int .i64 (d : Int)] w fun e w' => e = .returned (.bool false) ∧ Below w.heap.size w w' := by
  have HT := Lib.hid hT
  clear hT
  have gd : decide ((d : Int) > 64) = false := by simp; omega
  have gd2 : decide (64 < (d : Int)) = false := by simp; omega
  go_enter Tryz.func22, Tryz.ntmps22
  go_wp2_with (first
    | (go_at_call 40; go_must (refine (HN.out.call HT.out (by repeat (with_reducible (first | exact Below.refl _ _ | assumption | apply ba | apply bd | apply bdr | (refine bs ?_ (by first | assumption | (simp; done) | (simp; omega))) | (refine bt ?_ (by assumption)))))).mono ?_); rintro e w1 ⟨rfl, hb1⟩; have hc1 := fun o => (bcell hb1).1 w.heap.size o (by first | assumption | (simp; done) | (simp; omega)); have z1 := zz hb1 (by first | assumption | (simp; done) | (simp; omega) : w.heap.size < _); have B1 : Below w.heap.size w w1 := by repeat (with_reducible (first | exact Below.refl _ _ | assumption | apply ba | apply bd | apply bdr | (refine bs ?_ (by first | assumption | (simp; done) | (simp; omega))) | (refine bt ?_ (by assumption))))))
  go_ret
  exact ⟨rfl, by repeat (with_reducible (first | exact Below.refl _ _ | assumption | apply ba | apply bd | apply bdr | (refine bs ?_ (by first | assumption | (simp; done) | (simp; omega))) | (refine bt ?_ (by assumption))))⟩
theorem nd3_v (n v : List UInt8) (A K : Option Addr) (np nk ac kc d : Nat) (w : World) (hT : tabs w) (hd : d ≤ 64) (HN : Hid (GTb 40 #[.string (ba' n)] (.bool true))) (HV : Hid (∀ (g cap : Nat) (w1 : World), tabs w1 → w1.cell? ⟨g, 0, none⟩ = some (.string (ba' v)) → g < w1.heap.size → Calls Tryz.prog 15 #[.slice (some ⟨g, 0, none⟩) 1 cap] w1 fun e w' => e = .returned (.bool false) ∧ Below w1.heap.size w1 w')) : Calls Tryz.prog 22 #[.agg #[.int .i64 3, .string (ba' n), .string (ba' v), .slice A np ac, .slice K nk kc], .int .i64 (d : Int)] w fun e w' => e = .returned (.bool false) ∧ Below w.heap.size w w' := by
  have HT := Lib.hid hT
  clear hT
  have gd : decide ((d : Int) > 64) = false := by simp; omega
  have gd2 : decide (64 < (d : Int)) = false := by simp; omega
  go_enter Tryz.func22, Tryz.ntmps22
  go_wp2_with (first
    | (go_at_call 40; go_must (refine (HN.out.call HT.out (by repeat (with_reducible (first | exact Below.refl _ _ | assumption | apply ba | apply bd | apply bdr | (refine bs ?_ (by first | assumption | (simp; done) | (simp; omega))) | (refine bt ?_ (by assumption)))))).mono ?_); rintro e w1 ⟨rfl, hb1⟩; have hc1 := fun o => (bcell hb1).1 w.heap.size o (by first | assumption | (simp; done) | (simp; omega)); have z1 := zz hb1 (by first | assumption | (simp; done) | (simp; omega) : w.heap.size < _); have B1 : Below w.heap.size w w1 := by repeat (with_reducible (first | exact Below.refl _ _ | assumption | apply ba | apply bd | apply bdr | (refine bs ?_ (by first | assumption | (simp; done) | (simp; omega))) | (refine bt ?_ (by assumption)))))
    | (go_at_call 15; go_must (refine (HV.out _ _ _ (Utf8Tabs_below HT.out (by repeat (with_reducible (first | exact Below.refl _ _ | assumption | apply ba | apply bd | apply bdr | (refine bs ?_ (by first | assumption | (simp; done) | (simp; omega))) | (refine bt ?_ (by assumption)))))) (by first | (simp; done) | (simp [*]; done)) (by simp)).mono ?_); rintro e w2 ⟨rfl, hb2⟩; have hc2 := fun o => (bcell hb2).1 w.heap.size o (by first | assumption | (simp; done) | (simp; omega)); have z2 := zz hb2 (by first | assumption | (simp; done) | (simp; omega) : w.heap.size < _); have B2 : Below w.heap.size w w2 := by repeat (with_reducible (first | exact Below.refl _ _ | assumption | apply ba | apply bd | apply bdr | (refine bs ?_ (by first | assumption | (simp; done) | (simp; omega))) | (refine bt ?_ (by assumption))))))
  go_ret
  exact ⟨rfl, by repeat (with_reducible (first | exact Below.refl _ _ | assumption | apply ba | apply bd | apply bdr | (refine bs ?_ (by first | assumption | (simp; done) | (simp; omega))) | (refine bt ?_ (by assumption))))⟩
theorem nd3_l (lf : Bool) (n v : List UInt8) (A K : Option Addr) (np nk ac kc d : Nat) (w : World) (hT : tabs w) (hd : d ≤ 64) (HN : Hid (GTb 40 #[.string (ba' n)] (.bool true))) (HV : Hid (∀ (g cap : Nat) (w1 : World), tabs w1 → w1.cell? ⟨g, 0, none⟩ = some (.string (ba' v)) → g < w1.heap.size → Calls Tryz.prog 15 #[.slice (some ⟨g, 0, none⟩) 1 cap] w1 fun e w' => e = .returned (.bool true) ∧ Below w1.heap.size w1 w')) (HLF : Hid (∀ w1 : World, Calls Tryz.prog 42 #[.agg #[.int .i64 3, .string (ba' n), .string (ba' v), .slice A np ac, .slice K nk kc]] w1 fun e w' => e = .returned (.bool lf) ∧ Below w1.heap.size w1 w')) : Calls Tryz.prog 22 #[.agg #[.int .i64 3, .string (ba' n), .string (ba' v), .slice A np ac, .slice K nk kc], .int .i64 (d : Int)] w fun e w' => e = .returned (.bool lf) ∧ Below w.heap.size w w' := by
  have HT := Lib.hid hT
  clear hT
  have gd : decide ((d : Int) > 64) = false := by simp; omega
  have gd2 : decide (64 < (d : Int)) = false := by simp; omega
  go_enter Tryz.func22, Tryz.ntmps22
  go_wp2_with (first
    | (go_at_call 40; go_must (refine (HN.out.call HT.out (by repeat (with_reducible (first | exact Below.refl _ _ | assumption | apply ba | apply bd | apply bdr | (refine bs ?_ (by first | assumption | (simp; done) | (simp; omega))) | (refine bt ?_ (by assumption)))))).mono ?_); rintro e w1 ⟨rfl, hb1⟩; have hc1 := fun o => (bcell hb1).1 w.heap.size o (by first | assumption | (simp; done) | (simp; omega)); have z1 := zz hb1 (by first | assumption | (simp; done) | (simp; omega) : w.heap.size < _); have B1 : Below w.heap.size w w1 := by repeat (with_reducible (first | exact Below.refl _ _ | assumption | apply ba | apply bd | apply bdr | (refine bs ?_ (by first | assumption | (simp; done) | (simp; omega))) | (refine bt ?_ (by assumption)))))
    | (go_at_call 15; go_must (refine (HV.out _ _ _ (Utf8Tabs_below HT.out (by repeat (with_reducible (first | exact Below.refl _ _ | assumption | apply ba | apply bd | apply bdr | (refine bs ?_ (by first | assumption | (simp; done) | (simp; omega))) | (refine bt ?_ (by assumption)))))) (by first | (simp; done) | (simp [*]; done)) (by simp)).mono ?_); rintro e w2 ⟨rfl, hb2⟩; have hc2 := fun o => (bcell hb2).1 w.heap.size o (by first | assumption | (simp; done) | (simp; omega)); have z2 := zz hb2 (by first | assumption | (simp; done) | (simp; omega) : w.heap.size < _); have B2 : Below w.heap.size w w2 := by repeat (with_reducible (first | exact Below.refl _ _ | assumption | apply ba | apply bd | apply bdr | (refine bs ?_ (by first | assumption | (simp; done) | (simp; omega))) | (refine bt ?_ (by assumption)))))
    | (go_at_call 42; go_must (refine (HLF.out _).mono ?_); rintro e w5 ⟨rfl, hb5⟩; have hc5 := fun o => (bcell hb5).1 w.heap.size o (by first | assumption | (simp; done) | (simp; omega)); have z5 := zz hb5 (by first | assumption | (simp; done) | (simp; omega) : w.heap.size < _); have B5 : Below w.heap.size w w5 := by repeat (with_reducible (first | exact Below.refl _ _ | assumption | apply ba | apply bd | apply bdr | (refine bs ?_ (by first | assumption | (simp; done) | (simp; omega))) | (refine bt ?_ (by assumption))))))
  go_ret
  exact ⟨rfl, by repeat (with_reducible (first | exact Below.refl _ _ | assumption | apply ba | apply bd | apply bdr | (refine bs ?_ (by first | assumption | (simp; done) | (simp; omega))) | (refine bt ?_ (by assumption))))⟩
theorem nd4_n (n v : List UInt8) (A K : Option Addr) (np nk ac kc d : Nat) (w : World) (hT : tabs w) (hd : d ≤ 64) (hn : n ≠ []) : Calls Tryz.prog 22 #[.agg #[.int .i64 4, .string (ba' n), .string (ba' v), .slice A np ac, .slice K nk kc], .int .i64 (d : Int)] w fun e w' => e = .returned (.bool false) ∧ Below w.heap.size w w' := by
  have HT := Lib.hid hT
  clear hT
  have gd : decide ((d : Int) > 64) = false := by simp; omega
  have gd2 : decide (64 < (d : Int)) = false := by simp; omega
  have gn := isN hn
  clear hn
  go_enter Tryz.func22, Tryz.ntmps22
  go_wp2
  go_ret
  exact ⟨rfl, by repeat (with_reducible (first | exact Below.refl _ _ | assumption | apply ba | apply bd | apply bdr | (refine bs ?_ (by first | assumption | (simp; done) | (simp; omega))) | (refine bt ?_ (by assumption))))⟩
theorem nd4_v (n v : List UInt8) (A K : Option Addr) (np nk ac kc d : Nat) (w : World) (hT : tabs w) (hd : d ≤ 64) (hn : n = []) (hv : v = []) : Calls Tryz.prog 22 #[.agg #[.int .i64 4, .string (ba' n), .string (ba' v), .slice A np ac, .slice K nk kc], .int .i64 (d : Int)] w fun e w' => e = .returned (.bool false) ∧ Below w.heap.size w w' := by
  have HT := Lib.hid hT
  clear hT
  have gd : decide ((d : Int) > 64) = false := by simp; omega
  have gd2 : decide (64 < (d : Int)) = false := by simp; omega
  have gn := isE hn
  clear hn
  have gv := isE hv
  clear hv
  go_enter Tryz.func22, Tryz.ntmps22
  go_wp2
  go_ret
  exact ⟨rfl, by repeat (with_reducible (first | exact Below.refl _ _ | assumption | apply ba | apply bd | apply bdr | (refine bs ?_ (by first | assumption | (simp; done) | (simp; omega))) | (refine bt ?_ (by assumption))))⟩
theorem nd4_x (n v : List UInt8) (A K : Option Addr) (np nk ac kc d : Nat) (w : World) (hT : tabs w) (hd : d ≤ 64) (hn : n = []) (hv : v ≠ []) (HV : Hid (∀ (g cap : Nat) (w1 : World), tabs w1 → w1.cell? ⟨g, 0, none⟩ = some (.string (ba' v)) → g < w1.heap.size → Calls Tryz.prog 15 #[.slice (some ⟨g, 0, none⟩) 1 cap] w1 fun e w' => e = .returned (.bool false) ∧ Below w1.heap.size w1 w')) : Calls Tryz.prog 22 #[.agg #[.int .i64 4, .string (ba' n), .string (ba' v), .slice A np ac, .slice K nk kc], .int .i64 (d : Int)] w fun e w' => e = .returned (.bool false) ∧ Below w.heap.size w w' := by
  have HT := Lib.hid hT
  clear hT
  have gd : decide ((d : Int) > 64) = false := by simp; omega
  have gd2 : decide (64 < (d : Int)) = false := by simp; omega
  have gn := isE hn
  clear hn
  have gv := isN hv
  clear hv
  go_enter Tryz.func22, Tryz.ntmps22
  go_wp2_with (first
    | (go_at_call 15; go_must (refine (HV.out _ _ _ (Utf8Tabs_below HT.out (by repeat (with_reducible (first | exact Below.refl _ _ | assumption | apply ba | apply bd | apply bdr | (refine bs ?_ (by first | assumption | (simp; done) | (simp; omega))) | (refine bt ?_ (by assumption)))))) (by first | (simp; done) | (simp [*]; done)) (by simp)).mono ?_); rintro e w2 ⟨rfl, hb2⟩; have hc2 := fun o => (bcell hb2).1 w.heap.size o (by first | assumption | (simp; done) | (simp; omega)); have z2 := zz hb2 (by first | assumption | (simp; done) | (simp; omega) : w.heap.size < _); have B2 : Below w.heap.size w w2 := by repeat (with_reducible (first | exact Below.refl _ _ | assumption | apply ba | apply bd | apply bdr | (refine bs ?_ (by first | assumption | (simp; done) | (simp; omega))) | (refine bt ?_ (by assumption))))))
  go_ret
  exact ⟨rfl, by repeat (with_reducible (first | exact Below.refl _ _ | assumption | apply ba | apply bd | apply bdr | (refine bs ?_ (by first | assumption | (simp; done) | (simp; omega))) | (refine bt ?_ (by assumption))))⟩
theorem nd4_l (lf : Bool) (n v : List UInt8) (A K : Option Addr) (np nk ac kc d : Nat) (w : World) (hT : tabs w) (hd : d ≤ 64) (hn : n = []) (hv : v ≠ []) (HV : Hid (∀ (g cap : Nat) (w1 : World), tabs w1 → w1.cell? ⟨g, 0, none⟩ = some (.string (ba' v)) → g < w1.heap.size → Calls Tryz.prog 15 #[.slice (some ⟨g, 0, none⟩) 1 cap] w1 fun e w' => e = .returned (.bool true) ∧ Below w1.heap.size w1 w')) (HLF : Hid (∀ w1 : World, Calls Tryz.prog 42 #[.agg #[.int .i64 4, .string (ba' n), .string (ba' v), .slice A np ac, .slice K nk kc]] w1 fun e w' => e = .returned (.bool lf) ∧ Below w1.heap.size w1 w')) : Calls Tryz.prog 22 #[.agg #[.int .i64 4, .string (ba' n), .string (ba' v), .slice A np ac, .slice K nk kc], .int .i64 (d : Int)] w fun e w' => e = .returned (.bool lf) ∧ Below w.heap.size w w' := by
  have HT := Lib.hid hT
  clear hT
  have gd : decide ((d : Int) > 64) = false := by simp; omega
  have gd2 : decide (64 < (d : Int)) = false := by simp; omega
  have gn := isE hn
  clear hn
  have gv := isN hv
  clear hv
  go_enter Tryz.func22, Tryz.ntmps22
  go_wp2_with (first
    | (go_at_call 15; go_must (refine (HV.out _ _ _ (Utf8Tabs_below HT.out (by repeat (with_reducible (first | exact Below.refl _ _ | assumption | apply ba | apply bd | apply bdr | (refine bs ?_ (by first | assumption | (simp; done) | (simp; omega))) | (refine bt ?_ (by assumption)))))) (by first | (simp; done) | (simp [*]; done)) (by simp)).mono ?_); rintro e w2 ⟨rfl, hb2⟩; have hc2 := fun o => (bcell hb2).1 w.heap.size o (by first | assumption | (simp; done) | (simp; omega)); have z2 := zz hb2 (by first | assumption | (simp; done) | (simp; omega) : w.heap.size < _); have B2 : Below w.heap.size w w2 := by repeat (with_reducible (first | exact Below.refl _ _ | assumption | apply ba | apply bd | apply bdr | (refine bs ?_ (by first | assumption | (simp; done) | (simp; omega))) | (refine bt ?_ (by assumption)))))
    | (go_at_call 42; go_must (refine (HLF.out _).mono ?_); rintro e w5 ⟨rfl, hb5⟩; have hc5 := fun o => (bcell hb5).1 w.heap.size o (by first | assumption | (simp; done) | (simp; omega)); have z5 := zz hb5 (by first | assumption | (simp; done) | (simp; omega) : w.heap.size < _); have B5 : Below w.heap.size w w5 := by repeat (with_reducible (first | exact Below.refl _ _ | assumption | apply ba | apply bd | apply bdr | (refine bs ?_ (by first | assumption | (simp; done) | (simp; omega))) | (refine bt ?_ (by assumption))))))
  go_ret
  exact ⟨rfl, by repeat (with_reducible (first | exact Below.refl _ _ | assumption | apply ba | apply bd | apply bdr | (refine bs ?_ (by first | assumption | (simp; done) | (simp; omega))) | (refine bt ?_ (by assumption))))⟩
theorem nd5_n (n v : List UInt8) (A K : Option Addr) (np nk ac kc d : Nat) (w : World) (hT : tabs w) (hd : d ≤ 64) (hn : n ≠ []) : Calls Tryz.prog 22 #[.agg #[.int .i64 5, .string (ba' n), .string (ba' v), .slice A np ac, .slice K nk kc], .int .i64 (d : Int)] w fun e w' => e = .returned (.bool false) ∧ Below w.heap.size w w' := by
  have HT := Lib.hid hT
  clear hT
  have gd : decide ((d : Int) > 64) = false := by simp; omega
  have gd2 : decide (64 < (d : Int)) = false := by simp; omega
  have gn := isN hn
  clear hn
  go_enter Tryz.func22, Tryz.ntmps22
  go_wp2
  go_ret
  exact ⟨rfl, by repeat (with_reducible (first | exact Below.refl _ _ | assumption | apply ba | apply bd | apply bdr | (refine bs ?_ (by first | assumption | (simp; done) | (simp; omega))) | (refine bt ?_ (by assumption))))⟩
theorem nd5_x (n v : List UInt8) (A K : Option Addr) (np nk ac kc d : Nat) (w : World) (hT : tabs w) (hd : d ≤ 64) (hn : n = []) (HV : Hid (∀ (g cap : Nat) (w1 : World), tabs w1 → w1.cell? ⟨g, 0, none⟩ = some (.string (ba' v)) → g < w1.heap.size → Calls Tryz.prog 15 #[.slice (some ⟨g, 0, none⟩) 1 cap] w1 fun e w' => e = .returned (.bool false) ∧ Below w1.heap.size w1 w')) : Calls Tryz.prog 22 #[.agg #[.int .i64 5, .string (ba' n), .string (ba' v), .slice A np ac, .slice K nk kc], .int .i64 (d : Int)] w fun e w' => e = .returned (.bool false) ∧ Below w.heap.size w w' := by
  have HT := Lib.hid hT
  clear hT
  have gd : decide ((d : Int) > 64) = false := by simp; omega
  have gd2 : decide (64 < (d : Int)) = false := by simp; omega
  have gn := isE hn
  clear hn
  go_enter Tryz.func22, Tryz.ntmps22
  go_wp2_with (first
    | (go_at_call 15; go_must (refine (HV.out _ _ _ (Utf8Tabs_below HT.out (by repeat (with_reducible (first | exact Below.refl _ _ | assumption | apply ba | apply bd | apply bdr | (refine bs ?_ (by first | assumption | (simp; done) | (simp; omega))) | (refine bt ?_ (by assumption)))))) (by first | (simp; done) | (simp [*]; done)) (by simp)).mono ?_); rintro e w2 ⟨rfl, hb2⟩; have hc2 := fun o => (bcell hb2).1 w.heap.size o (by first | assumption | (simp; done) | (simp; omega)); have z2 := zz hb2 (by first | assumption | (simp; done) | (simp; omega) : w.heap.size < _); have B2 : Below w.heap.size w w2 := by repeat (with_reducible (first | exact Below.refl _ _ | assumption | apply ba | apply bd | apply bdr | (refine bs ?_ (by first | assumption | (simp; done) | (simp; omega))) | (refine bt ?_ (by assumption))))))
  go_ret
  exact ⟨rfl, by repeat (with_reducible (first | exact Below.refl _ _ | assumption | apply ba | apply bd | apply bdr | (refine bs ?_ (by first | assumption | (simp; done) | (simp; omega))) | (refine bt ?_ (by assumption))))⟩
theorem nd5_l (lf : Bool) (n v : List UInt8) (A K : Option Addr) (np nk ac kc d : Nat) (w : World) (hT : tabs w) (hd : d ≤ 64) (hn : n = []) (HV : Hid (∀ (g cap : Nat) (w1 : World), tabs w1 → w1.cell? ⟨g, 0, none⟩ = some (.string (ba' v)) → g < w1.heap.size → Calls Tryz.prog 15 #[.slice (some ⟨g, 0, none⟩) 1 cap] w1 fun e w' => e = .returned (.bool true) ∧ Below w1.heap.size w1 w')) (HLF : Hid (∀ w1 : World, Calls Tryz.prog 42 #[.agg #[.int .i64 5, .string (ba' n), .string (ba' v), .slice A np ac, .slice K nk kc]] w1 fun e w' => e = .returned (.bool lf) ∧ Below w1.heap.size w1 w')) : Calls Tryz.prog 22 #[.agg #[.int .i64 5, .string (ba' n), .string (ba' v), .slice A np ac, .slice K nk kc], .int .i64 (d : Int)] w fun e w' => e = .returned (.bool lf) ∧ Below w.heap.size w w' := by
  have HT := Lib.hid hT
  clear hT
  have gd : decide ((d : Int) > 64) = false := by simp; omega
  have gd2 : decide (64 < (d : Int)) = false := by simp; omega
  have gn := isE hn
  clear hn
  go_enter Tryz.func22, Tryz.ntmps22
  go_wp2_with (first
    | (go_at_call 15; go_must (refine (HV.out _ _ _ (Utf8Tabs_below HT.out (by repeat (with_reducible (first | exact Below.refl _ _ | assumption | apply ba | apply bd | apply bdr | (refine bs ?_ (by first | assumption | (simp; done) | (simp; omega))) | (refine bt ?_ (by assumption)))))) (by first | (simp; done) | (simp [*]; done)) (by simp)).mono ?_); rintro e w2 ⟨rfl, hb2⟩; have hc2 := fun o => (bcell hb2).1 w.heap.size o (by first | assumption | (simp; done) | (simp; omega)); have z2 := zz hb2 (by first | assumption | (simp; done) | (simp; omega) : w.heap.size < _); have B2 : Below w.heap.size w w2 := by repeat (with_reducible (first | exact Below.refl _ _ | assumption | apply ba | apply bd | apply bdr | (refine bs ?_ (by first | assumption | (simp; done) | (simp; omega))) | (refine bt ?_ (by assumption)))))
    | (go_at_call 42; go_must (refine (HLF.out _).mono ?_); rintro e w5 ⟨rfl, hb5⟩; have hc5 := fun o => (bcell hb5).1 w.heap.size o (by first | assumption | (simp; done) | (simp; omega)); have z5 := zz hb5 (by first | assumption | (simp; done) | (simp; omega) : w.heap.size < _); have B5 : Below w.heap.size w w5 := by repeat (with_reducible (first | exact Below.refl _ _ | assumption | apply ba | apply bd | apply bdr | (refine bs ?_ (by first | assumption | (simp; done) | (simp; omega))) | (refine bt ?_ (by assumption))))))
  go_ret
  exact ⟨rfl, by repeat (with_reducible (first | exact Below.refl _ _ | assumption | apply ba | apply bd | apply bdr | (refine bs ?_ (by first | assumption | (simp; done) | (simp; omega))) | (refine bt ?_ (by assumption))))⟩
end Go.Proofs.YtpdaldpaceolnaaGreatDoor
namespace Go.Proofs.YtpdaldpaceolnaaGreatDoor
open Go.RowKit Go.Lib
set_option maxRecDepth 100000
set_option maxHeartbeats 4000000
theorem len_pos {α : Type} {l : List α} (h : l ≠ []) : 0 < l.length := List.length_pos_iff.2 h
theorem valid_h (l : List UInt8) (hl : l.length ≤ maxLen) (b : Bool) (hb : validX l = b) : Hid (∀ (g cap : Nat) (w1 : World), tabs w1 → w1.cell? ⟨g, 0, none⟩ = some (.string (ba' l)) → g < w1.heap.size → Calls Tryz.prog 15 #[.slice (some ⟨g, 0, none⟩) 1 cap] w1 fun e w' => e = .returned (.bool b) ∧ Below w1.heap.size w1 w') :=
  Lib.hid fun g cap w1 hT h0 hg => validP_any l hl b hb g cap w1 hT h0 hg
theorem ndRight_any : ∀ t : Tr, NdR t := by
  intro t
  induction t using Tr.ind with
  | h k n v A ac ps K kc ks ih =>
    intro P w d hT hin hP hb hd
    have hF := fit_fields hb
    have hB : ∀ t ∈ ks, t.pl.fit := fit_kid hb
    have hPL := fit_pairs hb
    rw [Tr.In] at hin
    obtain ⟨hA, hK, hL⟩ := hin
    show Calls Tryz.prog 22 #[.agg #[.int .i64 k, .string (ba' n), .string (ba' v), .slice A ps.length ac, .slice K ks.length kc], .int .i64 (d : Int)] w _
    rw [Tr.pl, PT.right]
    by_cases h64 : d ≤ 64
    case neg =>
      have e : (decide (d ≤ 64) && headR k n v ps (plL ks).isEmpty && rightL (plL ks) (d + 1) 0) = false := by simp [h64]
      rw [e]
      exact nd_deep k n v A K _ _ ac kc d w hT (by omega)
    have h64' : decide (d ≤ 64) = true := by simpa using h64
    have NR := fun r h => nameP_g n hF.1 r h
    have VR := fun r h => valid_h v hF.2.1 r h
    have HKD : Hid (∀ w1 : World, Below w.heap.size w w1 → Calls Tryz.prog 39 #[.slice K ks.length kc, .int .i64 ((d : Int) + 1)] w1 fun e w' => e = .returned (.bool (rightL (plL ks) (d + 1) 0)) ∧ Below w1.heap.size w1 w') := Lib.hid fun w1 hb1 => by
      have := kids_any ks K ks.length kc (d + 1) P w1 (Utf8Tabs_below hT hb1) (Lib.hid rfl) (Lib.hid (hK.below hP hb1)) (Lib.hid (hL.below hP hb1)) (Lib.hid fun b h => Nat.lt_of_lt_of_le (hP b h) hb1.size) (Lib.hid ih) (Lib.hid hB) (by omega) (by omega)
      rwa [show ((d + 1 : Nat) : Int) = (d : Int) + 1 by push_cast; rfl] at this
    have HPR : Hid (∀ w1 : World, Below w.heap.size w w1 → Calls Tryz.prog 41 #[.slice A ps.length ac] w1 fun e w' => e = .returned (.bool (pairsR ps)) ∧ Below w1.heap.size w1 w') := Lib.hid fun w1 hb1 =>
      pairs_any ps A ps.length ac P w1 (Utf8Tabs_below hT hb1) (hA.below hP hb1) (fun b h => Nat.lt_of_lt_of_le (hP b h) hb1.size) rfl (by omega) hPL
    have bad : headR k n v ps (plL ks).isEmpty = false → (decide (d ≤ 64) && headR k n v ps (plL ks).isEmpty && rightL (plL ks) (d + 1) 0) = false := fun h => by rw [h]; simp
    have leafe : ∀ k', Hid (∀ w1 : World, Calls Tryz.prog 42 #[.agg #[.int .i64 k', .string (ba' n), .string (ba' v), .slice A ps.length ac, .slice K ks.length kc]] w1 fun e w' => e = .returned (.bool (ps.isEmpty && ks.isEmpty)) ∧ Below w1.heap.size w1 w') := fun k' => Lib.hid fun w1 => by
      by_cases hp : ps = []
      · have hp0 : ps.length = 0 := by rw [hp]; rfl
        rw [hp0]
        by_cases hk : ks = []
        · have hk0 : ks.length = 0 := by rw [hk]; rfl
          rw [hk0, show (ps.isEmpty && ks.isEmpty) = true by rw [hp, hk]; rfl]
          exact leaf_yes k' n v A K ac kc w1
        · rw [show (ps.isEmpty && ks.isEmpty) = false by rw [hp]; simpa using hk]
          exact leaf_k k' n v A K ks.length ac kc w1 (len_pos hk)
      · rw [show (ps.isEmpty && ks.isEmpty) = false by simp [hp]]
        exact leaf_p k' n v A K ps.length ks.length ac kc w1 (len_pos hp)
    have plE : (plL ks).isEmpty = ks.isEmpty := by cases ks <;> rfl
    have leafR : ∀ {k'}, headR k' n v ps (plL ks).isEmpty = (ps.isEmpty && ks.isEmpty) → (decide (d ≤ 64) && headR k' n v ps (plL ks).isEmpty && rightL (plL ks) (d + 1) 0) = (ps.isEmpty && ks.isEmpty) := fun h => by
      rw [h, h64']
      cases ks with
      | nil => simp [plL, rightL]
      | cons a l => simp
    by_cases k1 : k = 1
    · subst k1
      by_cases hn : n = []
      case neg =>
        rw [bad (by simp [headR, hn])]
        exact nd1_n n v A K ps.length ks.length ac kc d w hT h64 hn
      by_cases hv : v = []
      case neg =>
        rw [bad (by simp [headR, hn, hv])]
        exact nd1_v n v A K ps.length ks.length ac kc d w hT h64 hn hv
      by_cases hp : ps = []
      case neg =>
        rw [bad (by simp [headR, hn, hv, hp])]
        exact nd1_p n v A K ps.length ks.length ac kc d w hT h64 hn hv (len_pos hp)
      have hp0 : ps.length = 0 := by rw [hp]; rfl
      rw [hp0]
      have e : (decide (d ≤ 64) && headR 1 n v ps (plL ks).isEmpty && rightL (plL ks) (d + 1) 0) = rightL (plL ks) (d + 1) 0 := by simp [headR, h64', hn, hv, hp]
      rw [e]
      exact nd1_k n v A K ks.length ac kc d w hT h64 hn hv _ HKD
    by_cases k2 : k = 2
    · subst k2
      cases hr : nameX n with
      | false =>
        rw [bad (by simp [headR, hr])]
        exact nd2_n n v A K ps.length ks.length ac kc d w hT h64 (NR false hr)
      | true =>
      by_cases hv : v = []
      case neg =>
        rw [bad (by simp [headR, hr, hv])]
        exact nd2_v n v A K ps.length ks.length ac kc d w hT h64 hv (NR true hr)
      cases hpr : pairsR ps with
      | false =>
        rw [hpr] at HPR
        rw [bad (by simp [headR, hr, hv, hpr])]
        exact nd2_p n v A K ps.length ks.length ac kc d w hT h64 hv (NR true hr) HPR
      | true =>
      rw [hpr] at HPR
      have e : (decide (d ≤ 64) && headR 2 n v ps (plL ks).isEmpty && rightL (plL ks) (d + 1) 0) = rightL (plL ks) (d + 1) 0 := by simp [headR, h64', hr, hv, hpr]
      rw [e]
      exact nd2_k n v A K ps.length ks.length ac kc d w hT h64 hv (NR true hr) HPR _ HKD
    by_cases k3 : k = 3
    · subst k3
      cases hr : nameX n with
      | false =>
        rw [bad (by simp [headR, hr])]
        exact nd3_n n v A K ps.length ks.length ac kc d w hT h64 (NR false hr)
      | true =>
      cases hx : validX v with
      | false =>
        rw [bad (by simp [headR, hr, hx])]
        exact nd3_v n v A K ps.length ks.length ac kc d w hT h64 (NR true hr) (VR false hx)
      | true =>
      rw [leafR (by simp [headR, hr, hx, plE])]
      exact nd3_l _ n v A K ps.length ks.length ac kc d w hT h64 (NR true hr) (VR true hx) (leafe 3)
    by_cases k4 : k = 4
    · subst k4
      by_cases hn : n = []
      case neg =>
        rw [bad (by simp [headR, hn])]
        exact nd4_n n v A K ps.length ks.length ac kc d w hT h64 hn
      by_cases hv : v = []
      case pos =>
        rw [bad (by simp [headR, hn, hv])]
        exact nd4_v n v A K ps.length ks.length ac kc d w hT h64 hn hv
      cases hx : validX v with
      | false =>
        rw [bad (by simp [headR, hn, hx])]
        exact nd4_x n v A K ps.length ks.length ac kc d w hT h64 hn hv (VR false hx)
      | true =>
      have hve : v.isEmpty = false := by cases v with | nil => exact absurd rfl hv | cons a l => rfl
      rw [leafR (by simp [headR, hn, hve, hx, plE])]
      exact nd4_l _ n v A K ps.length ks.length ac kc d w hT h64 hn hv (VR true hx) (leafe 4)
    by_cases k5 : k = 5
    · subst k5
      by_cases hn : n = []
      case neg =>
        rw [bad (by simp [headR, hn])]
        exact nd5_n n v A K ps.length ks.length ac kc d w hT h64 hn
      cases hx : validX v with
      | false =>
        rw [bad (by simp [headR, hn, hx])]
        exact nd5_x n v A K ps.length ks.length ac kc d w hT h64 hn (VR false hx)
      | true =>
      rw [leafR (by simp [headR, hn, hx, plE])]
      exact nd5_l _ n v A K ps.length ks.length ac kc d w hT h64 hn (VR true hx) (leafe 5)
    rw [bad (by simp [headR, k1, k2, k3, k4, k5])]
    exact nd_other k n v A K ps.length ks.length ac kc d w hT h64 k1 k2 k3 k4 k5
end Go.Proofs.YtpdaldpaceolnaaGreatDoor
namespace Go.Proofs.YtpdaldpaceolnaaGreatDoor
open Go.RowKit Go.Lib
set_option maxRecDepth 100000
set_option maxHeartbeats 8000000
theorem right_one (t : Tr) (P : Nat → Prop) (w : World) (g cap : Nat) (hT : tabs w) (hin : t.In P w) (hP : ∀ b, P b → b < w.heap.size) (hb : t.pl.fit) (hg : g < w.heap.size) (hc : ∀ j u, t.cells[j]? = some u → w.cell? ⟨g, j, none⟩ = some u) :
    Calls Tryz.prog 12 #[.slice (some ⟨g, 0, none⟩) 1 cap] w fun e w' => e = .returned (.bool (t.pl.right 0)) ∧ Below w.heap.size w w' := by
  have HC := Lib.hid (fun (w1 : World) (hb1 : Below w.heap.size w w1) => ndRight_any t P w1 0 (Utf8Tabs_below hT hb1) (hin.below hP hb1) (fun b h => Nat.lt_of_lt_of_le (hP b h) hb1.size) hb (by decide))
  obtain ⟨r, hr⟩ : ∃ r, t.pl.right 0 = r := ⟨_, rfl⟩
  rw [hr] at HC ⊢
  obtain ⟨k, n, v, A, ac, ps, K, kc, ks⟩ := t
  simp only [Tr.v] at HC
  have h0 := hc 0 _ rfl; have h1 := hc 1 _ rfl; have h2 := hc 2 _ rfl; have h3 := hc 3 _ rfl; have h4 := hc 4 _ rfl
  obtain ⟨np, hnp⟩ : ∃ q, ps.length = q := ⟨_, rfl⟩
  obtain ⟨nk, hnk⟩ : ∃ q, ks.length = q := ⟨_, rfl⟩
  rw [hnp, hnk] at HC
  rw [hnp] at h3
  rw [hnk] at h4
  clear hc hin hb hr hT hnp hnk hP
  go_enter Tryz.func12, Tryz.ntmps12
  go_wp2
  go_loopw [7] (fun s7 wx => ∃ i : Nat, s7 = .int .i64 i ∧ i ≤ 1 ∧ (i = 1 → r = true) ∧ Below w.heap.size w wx) (fun s7 _ => 1 - (intOf s7).toNat)
  case atStart => exact ⟨0, rfl, by omega, fun h => absurd h (by decide), by repeat (with_reducible (first | exact Below.refl _ _ | assumption | apply ba | apply bd | apply bdr | (refine bs ?_ (by first | assumption | (simp; done) | (simp; omega))) | (refine bt ?_ (by assumption))))⟩
  case round =>
    obtain ⟨i, rfl, hi, e1, hB⟩ := hrel
    have d0 := (hB.cell (p := ⟨g, 0, none⟩) hg).trans h0
    have d1 := (hB.cell (p := ⟨g, 1, none⟩) hg).trans h1
    have d2 := (hB.cell (p := ⟨g, 2, none⟩) hg).trans h2
    have d3 := (hB.cell (p := ⟨g, 3, none⟩) hg).trans h3
    have d4 := (hB.cell (p := ⟨g, 4, none⟩) hg).trans h4
    have hgr : g < wr.heap.size := Nat.lt_of_lt_of_le hg hB.size
    clear h0 h1 h2 h3 h4
    rcases (by omega : i = 0 ∨ i = 1) with rfl | rfl
    · clear e1
      cases r with
      | false =>
        go_wp2_with (go_at_call 22; go_must (refine (HC.out _ (by repeat (with_reducible (first | exact Below.refl _ _ | assumption | apply ba | apply bd | apply bdr | (refine bs ?_ (by first | assumption | (simp; done) | (simp; omega))) | (refine bt ?_ (by assumption)))))).mono ?_); rintro e w1 ⟨rfl, hb1⟩)
        go_ret
        exact ⟨rfl, by repeat (with_reducible (first | exact Below.refl _ _ | assumption | apply ba | apply bd | apply bdr | (refine bs ?_ (by first | assumption | (simp; done) | (simp; omega))) | (refine bt ?_ (by assumption))))⟩
      | true =>
        go_wp2_with (go_at_call 22; go_must (refine (HC.out _ (by repeat (with_reducible (first | exact Below.refl _ _ | assumption | apply ba | apply bd | apply bdr | (refine bs ?_ (by first | assumption | (simp; done) | (simp; omega))) | (refine bt ?_ (by assumption)))))).mono ?_); rintro e w1 ⟨rfl, hb1⟩)
        go_roundw
        case rel => exact ⟨1, rfl, by omega, by simp, by repeat (with_reducible (first | exact Below.refl _ _ | assumption | apply ba | apply bd | apply bdr | (refine bs ?_ (by first | assumption | (simp; done) | (simp; omega))) | (refine bt ?_ (by assumption))))⟩
        case measure => simp [intOf]
    · obtain rfl := e1 rfl
      clear e1
      go_wp2
      go_ret
      exact ⟨rfl, by repeat (with_reducible (first | exact Below.refl _ _ | assumption | apply ba | apply bd | apply bdr | (refine bs ?_ (by first | assumption | (simp; done) | (simp; omega))) | (refine bt ?_ (by assumption))))⟩
end Go.Proofs.YtpdaldpaceolnaaGreatDoor
