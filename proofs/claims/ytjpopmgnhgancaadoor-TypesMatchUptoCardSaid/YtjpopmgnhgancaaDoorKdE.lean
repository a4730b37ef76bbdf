/- Trees, items and the kinds of both: part 5. No condition beyond what the theorems state. -/
import Derived.Test.YtjpopmgnhgancaaDoorKdB
namespace Go.Proofs.YtjpopmgnhgancaaDoor
open Go.RowKit Go.Lib
set_option maxRecDepth 100000
set_option maxHeartbeats 4000000
theorem rf1_n (n v : List UInt8) (A : Option Addr) (np nk ac : Nat) (K : Option Addr) (kc d : Nat) (w : World) (hd : d ≤ 64) (hn : n ≠ []) : Calls Tryd.prog 29 #[.agg #[.int .i64 1, .string (ba' n), .string (ba' v), .slice A np ac, .slice K nk kc], .int .i64 (d : Int)] w fun e w' => e = .returned (.bool false) ∧ Below w.heap.size w w' := by
  have gd : decide ((d : Int) > 64) = false := by simp; omega
  have gd2 : decide (64 < (d : Int)) = false := by simp; omega
  have gn := isN hn
  clear hn
  go_enter Tryd.func29, Tryd.ntmps29
  go_wp2
  go_ret
  exact ⟨rfl, by repeat (with_reducible (first | exact Below.refl _ _ | assumption | apply ba | apply bd | apply bdr | (refine bs ?_ (by first | assumption | (simp; done) | (simp; omega))) | (refine bt ?_ (by assumption))))⟩
theorem rf1_v (n v : List UInt8) (A : Option Addr) (np nk ac : Nat) (K : Option Addr) (kc d : Nat) (w : World) (hd : d ≤ 64) (hn : n = []) (hv : v ≠ []) : Calls Tryd.prog 29 #[.agg #[.int .i64 1, .string (ba' n), .string (ba' v), .slice A np ac, .slice K nk kc], .int .i64 (d : Int)] w fun e w' => e = .returned (.bool false) ∧ Below w.heap.size w w' := by
  have gd : decide ((d : Int) > 64) = false := by simp; omega
  have gd2 : decide (64 < (d : Int)) = false := by simp; omega
  have gn := isE hn
  clear hn
  have gv := isN hv
  clear hv
  go_enter Tryd.func29, Tryd.ntmps29
  go_wp2
  go_ret
  exact ⟨rfl, by repeat (with_reducible (first | exact Below.refl _ _ | assumption | apply ba | apply bd | apply bdr | (refine bs ?_ (by first | assumption | (simp; done) | (simp; omega))) | (refine bt ?_ (by assumption))))⟩
theorem rf1_p (n v : List UInt8) (A : Option Addr) (np nk ac : Nat) (K : Option Addr) (kc d : Nat) (w : World) (hd : d ≤ 64) (hn : n = []) (hv : v = []) (HV : Hid (Gives 53 #[.string (ba' v)] (.bool true))) (hnp : 0 < np) : Calls Tryd.prog 29 #[.agg #[.int .i64 1, .string (ba' n), .string (ba' v), .slice A np ac, .slice K nk kc], .int .i64 (d : Int)] w fun e w' => e = .returned (.bool false) ∧ Below w.heap.size w w' := by
  have gd : decide ((d : Int) > 64) = false := by simp; omega
  have gd2 : decide (64 < (d : Int)) = false := by simp; omega
  have gn := isE hn
  clear hn
  have gv := isE hv
  clear hv
  have g1 : decide ((np : Int) > 0) = true := by simpa using hnp
  have g2 : decide (0 < (np : Int)) = true := by simpa using hnp
  have g3 : decide (0 < np) = true := by simpa using hnp
  go_enter Tryd.func29, Tryd.ntmps29
  go_wp2_with (first
    | (go_at_call 53; go_must (refine (HV.out _).mono ?_); rintro e w2 ⟨rfl, hb2⟩; have hc2 := fun o => (bcell hb2).1 w.heap.size o (by first | (simp; done) | assumption | (simp; omega))))
  go_ret
  exact ⟨rfl, by repeat (with_reducible (first | exact Below.refl _ _ | assumption | apply ba | apply bd | apply bdr | (refine bs ?_ (by first | assumption | (simp; done) | (simp; omega))) | (refine bt ?_ (by assumption))))⟩
theorem rf2_n (n v : List UInt8) (A : Option Addr) (np nk ac : Nat) (K : Option Addr) (kc d : Nat) (w : World) (hd : d ≤ 64) (hn : n = []) : Calls Tryd.prog 29 #[.agg #[.int .i64 2, .string (ba' n), .string (ba' v), .slice A np ac, .slice K nk kc], .int .i64 (d : Int)] w fun e w' => e = .returned (.bool false) ∧ Below w.heap.size w w' := by
  have gd : decide ((d : Int) > 64) = false := by simp; omega
  have gd2 : decide (64 < (d : Int)) = false := by simp; omega
  have gn := isE hn
  clear hn
  go_enter Tryd.func29, Tryd.ntmps29
  go_wp2
  go_ret
  exact ⟨rfl, by repeat (with_reducible (first | exact Below.refl _ _ | assumption | apply ba | apply bd | apply bdr | (refine bs ?_ (by first | assumption | (simp; done) | (simp; omega))) | (refine bt ?_ (by assumption))))⟩
theorem rf2_m (n v : List UInt8) (A : Option Addr) (np nk ac : Nat) (K : Option Addr) (kc d : Nat) (w : World) (hd : d ≤ 64) (hn : n ≠ []) (HN : Hid (Gives 26 #[.string (ba' n)] (.bool false))) : Calls Tryd.prog 29 #[.agg #[.int .i64 2, .string (ba' n), .string (ba' v), .slice A np ac, .slice K nk kc], .int .i64 (d : Int)] w fun e w' => e = .returned (.bool false) ∧ Below w.heap.size w w' := by
  have gd : decide ((d : Int) > 64) = false := by simp; omega
  have gd2 : decide (64 < (d : Int)) = false := by simp; omega
  have gn := isN hn
  clear hn
  go_enter Tryd.func29, Tryd.ntmps29
  go_wp2_with (first
    | (go_at_call 26; go_must (refine (HN.out _).mono ?_); rintro e w1 ⟨rfl, hb1⟩; have hc1 := fun o => (bcell hb1).1 w.heap.size o (by first | (simp; done) | assumption | (simp; omega)); have z1 : w.heap.size < w1.heap.size := zz hb1 (by simp)))
  go_ret
  exact ⟨rfl, by repeat (with_reducible (first | exact Below.refl _ _ | assumption | apply ba | apply bd | apply bdr | (refine bs ?_ (by first | assumption | (simp; done) | (simp; omega))) | (refine bt ?_ (by assumption))))⟩
theorem rf2_v (n v : List UInt8) (A : Option Addr) (np nk ac : Nat) (K : Option Addr) (kc d : Nat) (w : World) (hd : d ≤ 64) (hn : n ≠ []) (hv : v ≠ []) (HN : Hid (Gives 26 #[.string (ba' n)] (.bool true))) : Calls Tryd.prog 29 #[.agg #[.int .i64 2, .string (ba' n), .string (ba' v), .slice A np ac, .slice K nk kc], .int .i64 (d : Int)] w fun e w' => e = .returned (.bool false) ∧ Below w.heap.size w w' := by
  have gd : decide ((d : Int) > 64) = false := by simp; omega
  have gd2 : decide (64 < (d : Int)) = false := by simp; omega
  have gn := isN hn
  clear hn
  have gv := isN hv
  clear hv
  go_enter Tryd.func29, Tryd.ntmps29
  go_wp2_with (first
    | (go_at_call 26; go_must (refine (HN.out _).mono ?_); rintro e w1 ⟨rfl, hb1⟩; have hc1 := fun o => (bcell hb1).1 w.heap.size o (by first | (simp; done) | assumption | (simp; omega)); have z1 : w.heap.size < w1.heap.size := zz hb1 (by simp)))
  go_ret
  exact ⟨rfl, by repeat (with_reducible (first | exact Below.refl _ _ | assumption | apply ba | apply bd | apply bdr | (refine bs ?_ (by first | assumption | (simp; done) | (simp; omega))) | (refine bt ?_ (by assumption))))⟩
theorem rf3_n (n v : List UInt8) (A : Option Addr) (np nk ac : Nat) (K : Option Addr) (kc d : Nat) (w : World) (hd : d ≤ 64) (hn : n = []) : Calls Tryd.prog 29 #[.agg #[.int .i64 3, .string (ba' n), .string (ba' v), .slice A np ac, .slice K nk kc], .int .i64 (d : Int)] w fun e w' => e = .returned (.bool false) ∧ Below w.heap.size w w' := by
  have gd : decide ((d : Int) > 64) = false := by simp; omega
  have gd2 : decide (64 < (d : Int)) = false := by simp; omega
  have gn := isE hn
  clear hn
  go_enter Tryd.func29, Tryd.ntmps29
  go_wp2
  go_ret
  exact ⟨rfl, by repeat (with_reducible (first | exact Below.refl _ _ | assumption | apply ba | apply bd | apply bdr | (refine bs ?_ (by first | assumption | (simp; done) | (simp; omega))) | (refine bt ?_ (by assumption))))⟩
theorem rf3_m (n v : List UInt8) (A : Option Addr) (np nk ac : Nat) (K : Option Addr) (kc d : Nat) (w : World) (hd : d ≤ 64) (hn : n ≠ []) (HN : Hid (Gives 26 #[.string (ba' n)] (.bool false))) : Calls Tryd.prog 29 #[.agg #[.int .i64 3, .string (ba' n), .string (ba' v), .slice A np ac, .slice K nk kc], .int .i64 (d : Int)] w fun e w' => e = .returned (.bool false) ∧ Below w.heap.size w w' := by
  have gd : decide ((d : Int) > 64) = false := by simp; omega
  have gd2 : decide (64 < (d : Int)) = false := by simp; omega
  have gn := isN hn
  clear hn
  go_enter Tryd.func29, Tryd.ntmps29
  go_wp2_with (first
    | (go_at_call 26; go_must (refine (HN.out _).mono ?_); rintro e w1 ⟨rfl, hb1⟩; have hc1 := fun o => (bcell hb1).1 w.heap.size o (by first | (simp; done) | assumption | (simp; omega)); have z1 : w.heap.size < w1.heap.size := zz hb1 (by simp)))
  go_ret
  exact ⟨rfl, by repeat (with_reducible (first | exact Below.refl _ _ | assumption | apply ba | apply bd | apply bdr | (refine bs ?_ (by first | assumption | (simp; done) | (simp; omega))) | (refine bt ?_ (by assumption))))⟩
theorem rf3_v (n v : List UInt8) (A : Option Addr) (np nk ac : Nat) (K : Option Addr) (kc d : Nat) (w : World) (hd : d ≤ 64) (hn : n ≠ []) (HN : Hid (Gives 26 #[.string (ba' n)] (.bool true))) (HV : Hid (Gives 53 #[.string (ba' v)] (.bool false))) : Calls Tryd.prog 29 #[.agg #[.int .i64 3, .string (ba' n), .string (ba' v), .slice A np ac, .slice K nk kc], .int .i64 (d : Int)] w fun e w' => e = .returned (.bool false) ∧ Below w.heap.size w w' := by
  have gd : decide ((d : Int) > 64) = false := by simp; omega
  have gd2 : decide (64 < (d : Int)) = false := by simp; omega
  have gn := isN hn
  clear hn
  go_enter Tryd.func29, Tryd.ntmps29
  go_wp2_with (first
    | (go_at_call 26; go_must (refine (HN.out _).mono ?_); rintro e w1 ⟨rfl, hb1⟩; have hc1 := fun o => (bcell hb1).1 w.heap.size o (by first | (simp; done) | assumption | (simp; omega)); have z1 : w.heap.size < w1.heap.size := zz hb1 (by simp))
    | (go_at_call 53; go_must (refine (HV.out _).mono ?_); rintro e w2 ⟨rfl, hb2⟩; have hc2 := fun o => (bcell hb2).1 w.heap.size o (by first | (simp; done) | assumption | (simp; omega))))
  go_ret
  exact ⟨rfl, by repeat (with_reducible (first | exact Below.refl _ _ | assumption | apply ba | apply bd | apply bdr | (refine bs ?_ (by first | assumption | (simp; done) | (simp; omega))) | (refine bt ?_ (by assumption))))⟩
theorem rf3_p (n v : List UInt8) (A : Option Addr) (np nk ac : Nat) (K : Option Addr) (kc d : Nat) (w : World) (hd : d ≤ 64) (hn : n ≠ []) (HN : Hid (Gives 26 #[.string (ba' n)] (.bool true))) (HV : Hid (Gives 53 #[.string (ba' v)] (.bool true))) (hnp : 0 < np) : Calls Tryd.prog 29 #[.agg #[.int .i64 3, .string (ba' n), .string (ba' v), .slice A np ac, .slice K nk kc], .int .i64 (d : Int)] w fun e w' => e = .returned (.bool false) ∧ Below w.heap.size w w' := by
  have gd : decide ((d : Int) > 64) = false := by simp; omega
  have gd2 : decide (64 < (d : Int)) = false := by simp; omega
  have gn := isN hn
  clear hn
  have g1 : decide ((np : Int) > 0) = true := by simpa using hnp
  have g2 : decide (0 < (np : Int)) = true := by simpa using hnp
  have g3 : decide (0 < np) = true := by simpa using hnp
  go_enter Tryd.func29, Tryd.ntmps29
  go_wp2_with (first
    | (go_at_call 26; go_must (refine (HN.out _).mono ?_); rintro e w1 ⟨rfl, hb1⟩; have hc1 := fun o => (bcell hb1).1 w.heap.size o (by first | (simp; done) | assumption | (simp; omega)); have z1 : w.heap.size < w1.heap.size := zz hb1 (by simp))
    | (go_at_call 53; go_must (refine (HV.out _).mono ?_); rintro e w2 ⟨rfl, hb2⟩; have hc2 := fun o => (bcell hb2).1 w.heap.size o (by first | (simp; done) | assumption | (simp; omega))))
  go_ret
  exact ⟨rfl, by repeat (with_reducible (first | exact Below.refl _ _ | assumption | apply ba | apply bd | apply bdr | (refine bs ?_ (by first | assumption | (simp; done) | (simp; omega))) | (refine bt ?_ (by assumption))))⟩
theorem rf3_k (n v : List UInt8) (A : Option Addr) (nk ac : Nat) (K : Option Addr) (kc d : Nat) (w : World) (hd : d ≤ 64) (hn : n ≠ []) (HN : Hid (Gives 26 #[.string (ba' n)] (.bool true))) (HV : Hid (Gives 53 #[.string (ba' v)] (.bool true))) (hnk : 0 < nk) : Calls Tryd.prog 29 #[.agg #[.int .i64 3, .string (ba' n), .string (ba' v), .slice A 0 ac, .slice K nk kc], .int .i64 (d : Int)] w fun e w' => e = .returned (.bool false) ∧ Below w.heap.size w w' := by
  have gd : decide ((d : Int) > 64) = false := by simp; omega
  have gd2 : decide (64 < (d : Int)) = false := by simp; omega
  have gn := isN hn
  clear hn
  have g4 : decide ((nk : Int) > 0) = true := by simpa using hnk
  have g5 : decide (0 < (nk : Int)) = true := by simpa using hnk
  have g6 : decide (0 < nk) = true := by simpa using hnk
  go_enter Tryd.func29, Tryd.ntmps29
  go_wp2_with (first
    | (go_at_call 26; go_must (refine (HN.out _).mono ?_); rintro e w1 ⟨rfl, hb1⟩; have hc1 := fun o => (bcell hb1).1 w.heap.size o (by first | (simp; done) | assumption | (simp; omega)); have z1 : w.heap.size < w1.heap.size := zz hb1 (by simp))
    | (go_at_call 53; go_must (refine (HV.out _).mono ?_); rintro e w2 ⟨rfl, hb2⟩; have hc2 := fun o => (bcell hb2).1 w.heap.size o (by first | (simp; done) | assumption | (simp; omega))))
  go_ret
  exact ⟨rfl, by repeat (with_reducible (first | exact Below.refl _ _ | assumption | apply ba | apply bd | apply bdr | (refine bs ?_ (by first | assumption | (simp; done) | (simp; omega))) | (refine bt ?_ (by assumption))))⟩
theorem rf4_n (n v : List UInt8) (A : Option Addr) (np nk ac : Nat) (K : Option Addr) (kc d : Nat) (w : World) (hd : d ≤ 64) (hn : n ≠ []) : Calls Tryd.prog 29 #[.agg #[.int .i64 4, .string (ba' n), .string (ba' v), .slice A np ac, .slice K nk kc], .int .i64 (d : Int)] w fun e w' => e = .returned (.bool false) ∧ Below w.heap.size w w' := by
  have gd : decide ((d : Int) > 64) = false := by simp; omega
  have gd2 : decide (64 < (d : Int)) = false := by simp; omega
  have gn := isN hn
  clear hn
  go_enter Tryd.func29, Tryd.ntmps29
  go_wp2
  go_ret
  exact ⟨rfl, by repeat (with_reducible (first | exact Below.refl _ _ | assumption | apply ba | apply bd | apply bdr | (refine bs ?_ (by first | assumption | (simp; done) | (simp; omega))) | (refine bt ?_ (by assumption))))⟩
theorem rf4_m (n v : List UInt8) (A : Option Addr) (np nk ac : Nat) (K : Option Addr) (kc d : Nat) (w : World) (hd : d ≤ 64) (hn : n = []) (HV : Hid (Gives 53 #[.string (ba' v)] (.bool false))) : Calls Tryd.prog 29 #[.agg #[.int .i64 4, .string (ba' n), .string (ba' v), .slice A np ac, .slice K nk kc], .int .i64 (d : Int)] w fun e w' => e = .returned (.bool false) ∧ Below w.heap.size w w' := by
  have gd : decide ((d : Int) > 64) = false := by simp; omega
  have gd2 : decide (64 < (d : Int)) = false := by simp; omega
  have gn := isE hn
  clear hn
  go_enter Tryd.func29, Tryd.ntmps29
  go_wp2_with (first
    | (go_at_call 53; go_must (refine (HV.out _).mono ?_); rintro e w2 ⟨rfl, hb2⟩; have hc2 := fun o => (bcell hb2).1 w.heap.size o (by first | (simp; done) | assumption | (simp; omega))))
  go_ret
  exact ⟨rfl, by repeat (with_reducible (first | exact Below.refl _ _ | assumption | apply ba | apply bd | apply bdr | (refine bs ?_ (by first | assumption | (simp; done) | (simp; omega))) | (refine bt ?_ (by assumption))))⟩
theorem rf4_v (n v : List UInt8) (A : Option Addr) (np nk ac : Nat) (K : Option Addr) (kc d : Nat) (w : World) (hd : d ≤ 64) (hn : n = []) (hv : v = []) (HV : Hid (Gives 53 #[.string (ba' v)] (.bool true))) : Calls Tryd.prog 29 #[.agg #[.int .i64 4, .string (ba' n), .string (ba' v), .slice A np ac, .slice K nk kc], .int .i64 (d : Int)] w fun e w' => e = .returned (.bool false) ∧ Below w.heap.size w w' := by
  have gd : decide ((d : Int) > 64) = false := by simp; omega
  have gd2 : decide (64 < (d : Int)) = false := by simp; omega
  have gn := isE hn
  clear hn
  have gv := isE hv
  clear hv
  go_enter Tryd.func29, Tryd.ntmps29
  go_wp2_with (first
    | (go_at_call 53; go_must (refine (HV.out _).mono ?_); rintro e w2 ⟨rfl, hb2⟩; have hc2 := fun o => (bcell hb2).1 w.heap.size o (by first | (simp; done) | assumption | (simp; omega))))
  go_ret
  exact ⟨rfl, by repeat (with_reducible (first | exact Below.refl _ _ | assumption | apply ba | apply bd | apply bdr | (refine bs ?_ (by first | assumption | (simp; done) | (simp; omega))) | (refine bt ?_ (by assumption))))⟩
theorem rf4_p (n v : List UInt8) (A : Option Addr) (np nk ac : Nat) (K : Option Addr) (kc d : Nat) (w : World) (hd : d ≤ 64) (hn : n = []) (hv : v ≠ []) (HV : Hid (Gives 53 #[.string (ba' v)] (.bool true))) (hnp : 0 < np) : Calls Tryd.prog 29 #[.agg #[.int .i64 4, .string (ba' n), .string (ba' v), .slice A np ac, .slice K nk kc], .int .i64 (d : Int)] w fun e w' => e = .returned (.bool false) ∧ Below w.heap.size w w' := by
  have gd : decide ((d : Int) > 64) = false := by simp; omega
  have gd2 : decide (64 < (d : Int)) = false := by simp; omega
  have gn := isE hn
  clear hn
  have gv := isN hv
  clear hv
  have g1 : decide ((np : Int) > 0) = true := by simpa using hnp
  have g2 : decide (0 < (np : Int)) = true := by simpa using hnp
  have g3 : decide (0 < np) = true := by simpa using hnp
  go_enter Tryd.func29, Tryd.ntmps29
  go_wp2_with (first
    | (go_at_call 53; go_must (refine (HV.out _).mono ?_); rintro e w2 ⟨rfl, hb2⟩; have hc2 := fun o => (bcell hb2).1 w.heap.size o (by first | (simp; done) | assumption | (simp; omega))))
  go_ret
  exact ⟨rfl, by repeat (with_reducible (first | exact Below.refl _ _ | assumption | apply ba | apply bd | apply bdr | (refine bs ?_ (by first | assumption | (simp; done) | (simp; omega))) | (refine bt ?_ (by assumption))))⟩
theorem rf4_k (n v : List UInt8) (A : Option Addr) (nk ac : Nat) (K : Option Addr) (kc d : Nat) (w : World) (hd : d ≤ 64) (hn : n = []) (hv : v ≠ []) (HV : Hid (Gives 53 #[.string (ba' v)] (.bool true))) (hnk : 0 < nk) : Calls Tryd.prog 29 #[.agg #[.int .i64 4, .string (ba' n), .string (ba' v), .slice A 0 ac, .slice K nk kc], .int .i64 (d : Int)] w fun e w' => e = .returned (.bool false) ∧ Below w.heap.size w w' := by
  have gd : decide ((d : Int) > 64) = false := by simp; omega
  have gd2 : decide (64 < (d : Int)) = false := by simp; omega
  have gn := isE hn
  clear hn
  have gv := isN hv
  clear hv
  have g4 : decide ((nk : Int) > 0) = true := by simpa using hnk
  have g5 : decide (0 < (nk : Int)) = true := by simpa using hnk
  have g6 : decide (0 < nk) = true := by simpa using hnk
  go_enter Tryd.func29, Tryd.ntmps29
  go_wp2_with (first
    | (go_at_call 53; go_must (refine (HV.out _).mono ?_); rintro e w2 ⟨rfl, hb2⟩; have hc2 := fun o => (bcell hb2).1 w.heap.size o (by first | (simp; done) | assumption | (simp; omega))))
  go_ret
  exact ⟨rfl, by repeat (with_reducible (first | exact Below.refl _ _ | assumption | apply ba | apply bd | apply bdr | (refine bs ?_ (by first | assumption | (simp; done) | (simp; omega))) | (refine bt ?_ (by assumption))))⟩
theorem rf5_n (n v : List UInt8) (A : Option Addr) (np nk ac : Nat) (K : Option Addr) (kc d : Nat) (w : World) (hd : d ≤ 64) (hn : n ≠ []) : Calls Tryd.prog 29 #[.agg #[.int .i64 5, .string (ba' n), .string (ba' v), .slice A np ac, .slice K nk kc], .int .i64 (d : Int)] w fun e w' => e = .returned (.bool false) ∧ Below w.heap.size w w' := by
  have gd : decide ((d : Int) > 64) = false := by simp; omega
  have gd2 : decide (64 < (d : Int)) = false := by simp; omega
  have gn := isN hn
  clear hn
  go_enter Tryd.func29, Tryd.ntmps29
  go_wp2
  go_ret
  exact ⟨rfl, by repeat (with_reducible (first | exact Below.refl _ _ | assumption | apply ba | apply bd | apply bdr | (refine bs ?_ (by first | assumption | (simp; done) | (simp; omega))) | (refine bt ?_ (by assumption))))⟩
theorem rf5_m (n v : List UInt8) (A : Option Addr) (np nk ac : Nat) (K : Option Addr) (kc d : Nat) (w : World) (hd : d ≤ 64) (hn : n = []) (HV : Hid (Gives 53 #[.string (ba' v)] (.bool false))) : Calls Tryd.prog 29 #[.agg #[.int .i64 5, .string (ba' n), .string (ba' v), .slice A np ac, .slice K nk kc], .int .i64 (d : Int)] w fun e w' => e = .returned (.bool false) ∧ Below w.heap.size w w' := by
  have gd : decide ((d : Int) > 64) = false := by simp; omega
  have gd2 : decide (64 < (d : Int)) = false := by simp; omega
  have gn := isE hn
  clear hn
  go_enter Tryd.func29, Tryd.ntmps29
  go_wp2_with (first
    | (go_at_call 53; go_must (refine (HV.out _).mono ?_); rintro e w2 ⟨rfl, hb2⟩; have hc2 := fun o => (bcell hb2).1 w.heap.size o (by first | (simp; done) | assumption | (simp; omega))))
  go_ret
  exact ⟨rfl, by repeat (with_reducible (first | exact Below.refl _ _ | assumption | apply ba | apply bd | apply bdr | (refine bs ?_ (by first | assumption | (simp; done) | (simp; omega))) | (refine bt ?_ (by assumption))))⟩
theorem rf5_p (n v : List UInt8) (A : Option Addr) (np nk ac : Nat) (K : Option Addr) (kc d : Nat) (w : World) (hd : d ≤ 64) (hn : n = []) (HV : Hid (Gives 53 #[.string (ba' v)] (.bool true))) (hnp : 0 < np) : Calls Tryd.prog 29 #[.agg #[.int .i64 5, .string (ba' n), .string (ba' v), .slice A np ac, .slice K nk kc], .int .i64 (d : Int)] w fun e w' => e = .returned (.bool false) ∧ Below w.heap.size w w' := by
  have gd : decide ((d : Int) > 64) = false := by simp; omega
  have gd2 : decide (64 < (d : Int)) = false := by simp; omega
  have gn := isE hn
  clear hn
  have g1 : decide ((np : Int) > 0) = true := by simpa using hnp
  have g2 : decide (0 < (np : Int)) = true := by simpa using hnp
  have g3 : decide (0 < np) = true := by simpa using hnp
  go_enter Tryd.func29, Tryd.ntmps29
  go_wp2_with (first
    | (go_at_call 53; go_must (refine (HV.out _).mono ?_); rintro e w2 ⟨rfl, hb2⟩; have hc2 := fun o => (bcell hb2).1 w.heap.size o (by first | (simp; done) | assumption | (simp; omega))))
  go_ret
  exact ⟨rfl, by repeat (with_reducible (first | exact Below.refl _ _ | assumption | apply ba | apply bd | apply bdr | (refine bs ?_ (by first | assumption | (simp; done) | (simp; omega))) | (refine bt ?_ (by assumption))))⟩
theorem rf5_k (n v : List UInt8) (A : Option Addr) (nk ac : Nat) (K : Option Addr) (kc d : Nat) (w : World) (hd : d ≤ 64) (hn : n = []) (HV : Hid (Gives 53 #[.string (ba' v)] (.bool true))) (hnk : 0 < nk) : Calls Tryd.prog 29 #[.agg #[.int .i64 5, .string (ba' n), .string (ba' v), .slice A 0 ac, .slice K nk kc], .int .i64 (d : Int)] w fun e w' => e = .returned (.bool false) ∧ Below w.heap.size w w' := by
  have gd : decide ((d : Int) > 64) = false := by simp; omega
  have gd2 : decide (64 < (d : Int)) = false := by simp; omega
  have gn := isE hn
  clear hn
  have g4 : decide ((nk : Int) > 0) = true := by simpa using hnk
  have g5 : decide (0 < (nk : Int)) = true := by simpa using hnk
  have g6 : decide (0 < nk) = true := by simpa using hnk
  go_enter Tryd.func29, Tryd.ntmps29
  go_wp2_with (first
    | (go_at_call 53; go_must (refine (HV.out _).mono ?_); rintro e w2 ⟨rfl, hb2⟩; have hc2 := fun o => (bcell hb2).1 w.heap.size o (by first | (simp; done) | assumption | (simp; omega))))
  go_ret
  exact ⟨rfl, by repeat (with_reducible (first | exact Below.refl _ _ | assumption | apply ba | apply bd | apply bdr | (refine bs ?_ (by first | assumption | (simp; done) | (simp; omega))) | (refine bt ?_ (by assumption))))⟩
theorem rf_deep (k : Int) (n v : List UInt8) (A : Option Addr) (np ac : Nat) (K : Option Addr) (nk kc d : Nat) (w : World) (hd : 64 < d) : Calls Tryd.prog 29 #[.agg #[.int .i64 k, .string (ba' n), .string (ba' v), .slice A np ac, .slice K nk kc], .int .i64 (d : Int)] w fun e w' => e = .returned (.bool false) ∧ Below w.heap.size w w' := by
  have gd : decide ((d : Int) > 64) = true := by simp; omega
  have gd2 : decide (64 < (d : Int)) = true := by simp; omega
  go_enter Tryd.func29, Tryd.ntmps29
  go_wp2
  go_ret
  exact ⟨rfl, by repeat (with_reducible (first | exact Below.refl _ _ | assumption | apply ba | apply bd | apply bdr | (refine bs ?_ (by first | assumption | (simp; done) | (simp; omega))) | (refine bt ?_ (by assumption))))⟩
theorem rf_low (k : Int) (n v : List UInt8) (A : Option Addr) (np ac : Nat) (K : Option Addr) (nk kc d : Nat) (w : World) (hd : d ≤ 64) (hk : k < 1) : Calls Tryd.prog 29 #[.agg #[.int .i64 k, .string (ba' n), .string (ba' v), .slice A np ac, .slice K nk kc], .int .i64 (d : Int)] w fun e w' => e = .returned (.bool false) ∧ Below w.heap.size w w' := by
  have gd : decide ((d : Int) > 64) = false := by simp; omega
  have gd2 : decide (64 < (d : Int)) = false := by simp; omega
  have g1 : decide (k < 1) = true := by simpa using hk
  go_enter Tryd.func29, Tryd.ntmps29
  go_wp2
  go_ret
  exact ⟨rfl, by repeat (with_reducible (first | exact Below.refl _ _ | assumption | apply ba | apply bd | apply bdr | (refine bs ?_ (by first | assumption | (simp; done) | (simp; omega))) | (refine bt ?_ (by assumption))))⟩
theorem rf_high (k : Int) (n v : List UInt8) (A : Option Addr) (np ac : Nat) (K : Option Addr) (nk kc d : Nat) (w : World) (hd : d ≤ 64) (hk : 5 < k) : Calls Tryd.prog 29 #[.agg #[.int .i64 k, .string (ba' n), .string (ba' v), .slice A np ac, .slice K nk kc], .int .i64 (d : Int)] w fun e w' => e = .returned (.bool false) ∧ Below w.heap.size w w' := by
  have gd : decide ((d : Int) > 64) = false := by simp; omega
  have gd2 : decide (64 < (d : Int)) = false := by simp; omega
  have g1 : decide (k < 1) = false := by simp; omega
  have g2 : decide (k > 5) = true := by simpa using hk
  have g3 : decide (5 < k) = true := by simpa using hk
  go_enter Tryd.func29, Tryd.ntmps29
  go_wp2
  go_ret
  exact ⟨rfl, by repeat (with_reducible (first | exact Below.refl _ _ | assumption | apply ba | apply bd | apply bdr | (refine bs ?_ (by first | assumption | (simp; done) | (simp; omega))) | (refine bt ?_ (by assumption))))⟩
end Go.Proofs.YtjpopmgnhgancaaDoor
