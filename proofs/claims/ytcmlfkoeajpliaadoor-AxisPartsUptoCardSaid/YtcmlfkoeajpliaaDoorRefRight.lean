/- The reference tells which trees are right. No condition beyond what the theorems state. -/
import Derived.Test.YtcmlfkoeajpliaaDoorTrees
import Derived.Deep.DeepMust
import Derived.Test.YtcmlfkoeajpliaaDoorChTexts
import Derived.Test.YtcmlfkoeajpliaaDoorChBytes
namespace Go.Proofs.YtcmlfkoeajpliaaDoor
open Go.RowKit Go.Lib
set_option maxRecDepth 100000
set_option maxHeartbeats 4000000
/-- What a call answers, making memory alone. -/
theorem nameR_g (l : List UInt8) (hl : l.length ≤ 1048576) (b : Bool) (hb : nameX l = b) : Hid (Gives 49 #[.string (ba' l)] (.bool b)) := gives_unfold fun w => by
  have := name_ref (ba' l) w (by rw [size_ba]; omega)
  rw [← hb]
  exact this
theorem validR_g (l : List UInt8) (hl : l.length ≤ 1048576) (b : Bool) (hb : validX l = b) : Hid (Gives 50 #[.string (ba' l)] (.bool b)) := gives_unfold fun w => by
  have := valid_ref (ba' l) w (by rw [size_ba]; omega)
  rw [← hb]
  exact this
theorem isE {l : List UInt8} (h : l = []) : (ba' l).toList.isEmpty = true := by rw [toList_ba, h]; rfl
theorem isN {l : List UInt8} (h : l ≠ []) : (ba' l).toList.isEmpty = false := by
  rw [toList_ba]
  cases l with
  | nil => exact absurd rfl h
  | cons a l => rfl
theorem eq_yes (l : List UInt8) : ((ba' l).toList == (ba' l).toList) = true := by simp
theorem eq_no {l m : List UInt8} (h : l ≠ m) : ((ba' l).toList == (ba' m).toList) = false := by
  rw [toList_ba, toList_ba]
  simpa using h
/-- The contract of the reference at one tree. -/
def RefR (t : Tr) : Prop := ∀ (P : Nat → Prop) (w : World) (d : Nat), t.In P w → (∀ b, P b → b < w.heap.size) → t.pl.bulk ≤ 1048576 → d ≤ 65 →
  Calls Tryd.prog 15 #[t.v, .int .i64 (d : Int)] w fun e w' => e = .returned (.bool (t.pl.right d)) ∧ Below w.heap.size w w'
/-- The kind of the kid ahead. -/
def lastK (ks : List Tr) : Nat → Int
  | 0 => 0
  | j + 1 => ((ks[j]?).map fun t => t.pl.k).getD 0
theorem pairs_step {ps : List (List UInt8 × List UInt8)} {i : Nat} {p : List UInt8 × List UInt8} (hp : ps[i]? = some p) (h : pairsR (ps.take i) = true) (h1 : nameX p.1 = true) (h2 : validX p.2 = true)
    (hd : ∀ q, q < i → ∀ x, ps[q]? = some x → x.1 ≠ p.1) : pairsR (ps.take (i + 1)) = true := by
  unfold pairsR at *
  simp only [Bool.and_eq_true, decide_eq_true_eq] at h ⊢
  rw [List.take_add_one, hp]
  refine ⟨?_, ?_⟩
  · rw [List.all_append, h.1]; simp [h1, h2]
  · rw [List.map_append, List.nodup_append]
    refine ⟨h.2, by simp, ?_⟩
    intro a ha b hb hab
    subst hab
    simp only [Option.toList_some, List.map_cons, List.map_nil, List.mem_singleton] at hb
    obtain ⟨x, hx, hxa⟩ := List.mem_map.1 ha
    obtain ⟨q, hq, hqx⟩ := List.getElem_of_mem hx
    rw [List.length_take] at hq
    refine hd q (by omega) x ?_ (hxa.trans hb)
    rw [← hqx, List.getElem_take]
    exact List.getElem?_eq_getElem (by omega)
theorem pairs_bad {ps : List (List UInt8 × List UInt8)} {i : Nat} {p : List UInt8 × List UInt8} (hp : ps[i]? = some p) (h : nameX p.1 = false ∨ validX p.2 = false) : pairsR ps = false := by
  unfold pairsR
  rw [Bool.and_eq_false_iff]
  left
  rw [List.all_eq_false]
  exact ⟨p, List.mem_of_getElem? hp, by rcases h with h | h <;> simp [h]⟩
theorem pairs_twice {ps : List (List UInt8 × List UInt8)} {i j : Nat} {p q : List UInt8 × List UInt8} (hp : ps[i]? = some p) (hq : ps[j]? = some q) (hj : j < i) (h : q.1 = p.1) : pairsR ps = false := by
  unfold pairsR
  rw [Bool.and_eq_false_iff]
  right
  rw [decide_eq_false_iff_not]
  intro hn
  have hi := (List.getElem?_eq_some_iff.1 hp)
  have hjj := (List.getElem?_eq_some_iff.1 hq)
  obtain ⟨hi1, hi2⟩ := hi
  obtain ⟨hj1, hj2⟩ := hjj
  have := (List.pairwise_iff_getElem.1 hn) j i (by simpa using hj1) (by simpa using hi1) hj
  apply this
  simp [hi2, hj2, h]
end Go.Proofs.YtcmlfkoeajpliaaDoor
namespace Go.Proofs.YtcmlfkoeajpliaaDoor
open Go.RowKit Go.Lib
set_option maxRecDepth 100000
set_option maxHeartbeats 4000000
theorem rf1_n (n v : List UInt8) (A : Option Addr) (np nk ac : Nat) (K : Option Addr) (kc d : Nat) (w : World) (hd : d ≤ 64) (hn : n ≠ []) : Calls Tryd.prog 15 #[.agg #[.int .i64 1, .string (ba' n), .string (ba' v), .slice A np ac, .slice K nk kc], .int .i64 (d : Int)] w fun e w' => e = .returned (.bool false) ∧ Below w.heap.size w w' := by
  have gd : decide ((d : Int) > 64) = false := by simp; omega
  have gd2 : decide (64 < (d : Int)) = false := by simp; omega
  have gn := isN hn
  clear hn
  go_enter Tryd.func15, Tryd.ntmps15
  go_wp2
  go_ret
  exact ⟨rfl, by repeat (with_reducible (first | exact Below.refl _ _ | assumption | apply ba | apply bd | apply bdr | (refine bs ?_ (by first | assumption | (simp; done) | (simp; omega))) | (refine bt ?_ (by assumption))))⟩
theorem rf1_v (n v : List UInt8) (A : Option Addr) (np nk ac : Nat) (K : Option Addr) (kc d : Nat) (w : World) (hd : d ≤ 64) (hn : n = []) (hv : v ≠ []) : Calls Tryd.prog 15 #[.agg #[.int .i64 1, .string (ba' n), .string (ba' v), .slice A np ac, .slice K nk kc], .int .i64 (d : Int)] w fun e w' => e = .returned (.bool false) ∧ Below w.heap.size w w' := by
  have gd : decide ((d : Int) > 64) = false := by simp; omega
  have gd2 : decide (64 < (d : Int)) = false := by simp; omega
  have gn := isE hn
  clear hn
  have gv := isN hv
  clear hv
  go_enter Tryd.func15, Tryd.ntmps15
  go_wp2
  go_ret
  exact ⟨rfl, by repeat (with_reducible (first | exact Below.refl _ _ | assumption | apply ba | apply bd | apply bdr | (refine bs ?_ (by first | assumption | (simp; done) | (simp; omega))) | (refine bt ?_ (by assumption))))⟩
theorem rf1_p (n v : List UInt8) (A : Option Addr) (np nk ac : Nat) (K : Option Addr) (kc d : Nat) (w : World) (hd : d ≤ 64) (hn : n = []) (hv : v = []) (HV : Hid (Gives 50 #[.string (ba' v)] (.bool true))) (hnp : 0 < np) : Calls Tryd.prog 15 #[.agg #[.int .i64 1, .string (ba' n), .string (ba' v), .slice A np ac, .slice K nk kc], .int .i64 (d : Int)] w fun e w' => e = .returned (.bool false) ∧ Below w.heap.size w w' := by
  have gd : decide ((d : Int) > 64) = false := by simp; omega
  have gd2 : decide (64 < (d : Int)) = false := by simp; omega
  have gn := isE hn
  clear hn
  have gv := isE hv
  clear hv
  have g1 : decide ((np : Int) > 0) = true := by simpa using hnp
  have g2 : decide (0 < (np : Int)) = true := by simpa using hnp
  have g3 : decide (0 < np) = true := by simpa using hnp
  go_enter Tryd.func15, Tryd.ntmps15
  go_wp2_with (first
    | (go_at_call 50; go_must (refine (HV.out _).mono ?_); rintro e w2 ⟨rfl, hb2⟩; have hc2 := fun o => (bcell hb2).1 w.heap.size o (by first | (simp; done) | assumption | (simp; omega))))
  go_ret
  exact ⟨rfl, by repeat (with_reducible (first | exact Below.refl _ _ | assumption | apply ba | apply bd | apply bdr | (refine bs ?_ (by first | assumption | (simp; done) | (simp; omega))) | (refine bt ?_ (by assumption))))⟩
theorem rf2_n (n v : List UInt8) (A : Option Addr) (np nk ac : Nat) (K : Option Addr) (kc d : Nat) (w : World) (hd : d ≤ 64) (hn : n = []) : Calls Tryd.prog 15 #[.agg #[.int .i64 2, .string (ba' n), .string (ba' v), .slice A np ac, .slice K nk kc], .int .i64 (d : Int)] w fun e w' => e = .returned (.bool false) ∧ Below w.heap.size w w' := by
  have gd : decide ((d : Int) > 64) = false := by simp; omega
  have gd2 : decide (64 < (d : Int)) = false := by simp; omega
  have gn := isE hn
  clear hn
  go_enter Tryd.func15, Tryd.ntmps15
  go_wp2
  go_ret
  exact ⟨rfl, by repeat (with_reducible (first | exact Below.refl _ _ | assumption | apply ba | apply bd | apply bdr | (refine bs ?_ (by first | assumption | (simp; done) | (simp; omega))) | (refine bt ?_ (by assumption))))⟩
theorem rf2_m (n v : List UInt8) (A : Option Addr) (np nk ac : Nat) (K : Option Addr) (kc d : Nat) (w : World) (hd : d ≤ 64) (hn : n ≠ []) (HN : Hid (Gives 49 #[.string (ba' n)] (.bool false))) : Calls Tryd.prog 15 #[.agg #[.int .i64 2, .string (ba' n), .string (ba' v), .slice A np ac, .slice K nk kc], .int .i64 (d : Int)] w fun e w' => e = .returned (.bool false) ∧ Below w.heap.size w w' := by
  have gd : decide ((d : Int) > 64) = false := by simp; omega
  have gd2 : decide (64 < (d : Int)) = false := by simp; omega
  have gn := isN hn
  clear hn
  go_enter Tryd.func15, Tryd.ntmps15
  go_wp2_with (first
    | (go_at_call 49; go_must (refine (HN.out _).mono ?_); rintro e w1 ⟨rfl, hb1⟩; have hc1 := fun o => (bcell hb1).1 w.heap.size o (by first | (simp; done) | assumption | (simp; omega)); have z1 : w.heap.size < w1.heap.size := zz hb1 (by simp)))
  go_ret
  exact ⟨rfl, by repeat (with_reducible (first | exact Below.refl _ _ | assumption | apply ba | apply bd | apply bdr | (refine bs ?_ (by first | assumption | (simp; done) | (simp; omega))) | (refine bt ?_ (by assumption))))⟩
theorem rf2_v (n v : List UInt8) (A : Option Addr) (np nk ac : Nat) (K : Option Addr) (kc d : Nat) (w : World) (hd : d ≤ 64) (hn : n ≠ []) (hv : v ≠ []) (HN : Hid (Gives 49 #[.string (ba' n)] (.bool true))) : Calls Tryd.prog 15 #[.agg #[.int .i64 2, .string (ba' n), .string (ba' v), .slice A np ac, .slice K nk kc], .int .i64 (d : Int)] w fun e w' => e = .returned (.bool false) ∧ Below w.heap.size w w' := by
  have gd : decide ((d : Int) > 64) = false := by simp; omega
  have gd2 : decide (64 < (d : Int)) = false := by simp; omega
  have gn := isN hn
  clear hn
  have gv := isN hv
  clear hv
  go_enter Tryd.func15, Tryd.ntmps15
  go_wp2_with (first
    | (go_at_call 49; go_must (refine (HN.out _).mono ?_); rintro e w1 ⟨rfl, hb1⟩; have hc1 := fun o => (bcell hb1).1 w.heap.size o (by first | (simp; done) | assumption | (simp; omega)); have z1 : w.heap.size < w1.heap.size := zz hb1 (by simp)))
  go_ret
  exact ⟨rfl, by repeat (with_reducible (first | exact Below.refl _ _ | assumption | apply ba | apply bd | apply bdr | (refine bs ?_ (by first | assumption | (simp; done) | (simp; omega))) | (refine bt ?_ (by assumption))))⟩
theorem rf3_n (n v : List UInt8) (A : Option Addr) (np nk ac : Nat) (K : Option Addr) (kc d : Nat) (w : World) (hd : d ≤ 64) (hn : n = []) : Calls Tryd.prog 15 #[.agg #[.int .i64 3, .string (ba' n), .string (ba' v), .slice A np ac, .slice K nk kc], .int .i64 (d : Int)] w fun e w' => e = .returned (.bool false) ∧ Below w.heap.size w w' := by
  have gd : decide ((d : Int) > 64) = false := by simp; omega
  have gd2 : decide (64 < (d : Int)) = false := by simp; omega
  have gn := isE hn
  clear hn
  go_enter Tryd.func15, Tryd.ntmps15
  go_wp2
  go_ret
  exact ⟨rfl, by repeat (with_reducible (first | exact Below.refl _ _ | assumption | apply ba | apply bd | apply bdr | (refine bs ?_ (by first | assumption | (simp; done) | (simp; omega))) | (refine bt ?_ (by assumption))))⟩
theorem rf3_m (n v : List UInt8) (A : Option Addr) (np nk ac : Nat) (K : Option Addr) (kc d : Nat) (w : World) (hd : d ≤ 64) (hn : n ≠ []) (HN : Hid (Gives 49 #[.string (ba' n)] (.bool false))) : Calls Tryd.prog 15 #[.agg #[.int .i64 3, .string (ba' n), .string (ba' v), .slice A np ac, .slice K nk kc], .int .i64 (d : Int)] w fun e w' => e = .returned (.bool false) ∧ Below w.heap.size w w' := by
  have gd : decide ((d : Int) > 64) = false := by simp; omega
  have gd2 : decide (64 < (d : Int)) = false := by simp; omega
  have gn := isN hn
  clear hn
  go_enter Tryd.func15, Tryd.ntmps15
  go_wp2_with (first
    | (go_at_call 49; go_must (refine (HN.out _).mono ?_); rintro e w1 ⟨rfl, hb1⟩; have hc1 := fun o => (bcell hb1).1 w.heap.size o (by first | (simp; done) | assumption | (simp; omega)); have z1 : w.heap.size < w1.heap.size := zz hb1 (by simp)))
  go_ret
  exact ⟨rfl, by repeat (with_reducible (first | exact Below.refl _ _ | assumption | apply ba | apply bd | apply bdr | (refine bs ?_ (by first | assumption | (simp; done) | (simp; omega))) | (refine bt ?_ (by assumption))))⟩
theorem rf3_v (n v : List UInt8) (A : Option Addr) (np nk ac : Nat) (K : Option Addr) (kc d : Nat) (w : World) (hd : d ≤ 64) (hn : n ≠ []) (HN : Hid (Gives 49 #[.string (ba' n)] (.bool true))) (HV : Hid (Gives 50 #[.string (ba' v)] (.bool false))) : Calls Tryd.prog 15 #[.agg #[.int .i64 3, .string (ba' n), .string (ba' v), .slice A np ac, .slice K nk kc], .int .i64 (d : Int)] w fun e w' => e = .returned (.bool false) ∧ Below w.heap.size w w' := by
  have gd : decide ((d : Int) > 64) = false := by simp; omega
  have gd2 : decide (64 < (d : Int)) = false := by simp; omega
  have gn := isN hn
  clear hn
  go_enter Tryd.func15, Tryd.ntmps15
  go_wp2_with (first
    | (go_at_call 49; go_must (refine (HN.out _).mono ?_); rintro e w1 ⟨rfl, hb1⟩; have hc1 := fun o => (bcell hb1).1 w.heap.size o (by first | (simp; done) | assumption | (simp; omega)); have z1 : w.heap.size < w1.heap.size := zz hb1 (by simp))
    | (go_at_call 50; go_must (refine (HV.out _).mono ?_); rintro e w2 ⟨rfl, hb2⟩; have hc2 := fun o => (bcell hb2).1 w.heap.size o (by first | (simp; done) | assumption | (simp; omega))))
  go_ret
  exact ⟨rfl, by repeat (with_reducible (first | exact Below.refl _ _ | assumption | apply ba | apply bd | apply bdr | (refine bs ?_ (by first | assumption | (simp; done) | (simp; omega))) | (refine bt ?_ (by assumption))))⟩
theorem rf3_p (n v : List UInt8) (A : Option Addr) (np nk ac : Nat) (K : Option Addr) (kc d : Nat) (w : World) (hd : d ≤ 64) (hn : n ≠ []) (HN : Hid (Gives 49 #[.string (ba' n)] (.bool true))) (HV : Hid (Gives 50 #[.string (ba' v)] (.bool true))) (hnp : 0 < np) : Calls Tryd.prog 15 #[.agg #[.int .i64 3, .string (ba' n), .string (ba' v), .slice A np ac, .slice K nk kc], .int .i64 (d : Int)] w fun e w' => e = .returned (.bool false) ∧ Below w.heap.size w w' := by
  have gd : decide ((d : Int) > 64) = false := by simp; omega
  have gd2 : decide (64 < (d : Int)) = false := by simp; omega
  have gn := isN hn
  clear hn
  have g1 : decide ((np : Int) > 0) = true := by simpa using hnp
  have g2 : decide (0 < (np : Int)) = true := by simpa using hnp
  have g3 : decide (0 < np) = true := by simpa using hnp
  go_enter Tryd.func15, Tryd.ntmps15
  go_wp2_with (first
    | (go_at_call 49; go_must (refine (HN.out _).mono ?_); rintro e w1 ⟨rfl, hb1⟩; have hc1 := fun o => (bcell hb1).1 w.heap.size o (by first | (simp; done) | assumption | (simp; omega)); have z1 : w.heap.size < w1.heap.size := zz hb1 (by simp))
    | (go_at_call 50; go_must (refine (HV.out _).mono ?_); rintro e w2 ⟨rfl, hb2⟩; have hc2 := fun o => (bcell hb2).1 w.heap.size o (by first | (simp; done) | assumption | (simp; omega))))
  go_ret
  exact ⟨rfl, by repeat (with_reducible (first | exact Below.refl _ _ | assumption | apply ba | apply bd | apply bdr | (refine bs ?_ (by first | assumption | (simp; done) | (simp; omega))) | (refine bt ?_ (by assumption))))⟩
theorem rf3_k (n v : List UInt8) (A : Option Addr) (nk ac : Nat) (K : Option Addr) (kc d : Nat) (w : World) (hd : d ≤ 64) (hn : n ≠ []) (HN : Hid (Gives 49 #[.string (ba' n)] (.bool true))) (HV : Hid (Gives 50 #[.string (ba' v)] (.bool true))) (hnk : 0 < nk) : Calls Tryd.prog 15 #[.agg #[.int .i64 3, .string (ba' n), .string (ba' v), .slice A 0 ac, .slice K nk kc], .int .i64 (d : Int)] w fun e w' => e = .returned (.bool false) ∧ Below w.heap.size w w' := by
  have gd : decide ((d : Int) > 64) = false := by simp; omega
  have gd2 : decide (64 < (d : Int)) = false := by simp; omega
  have gn := isN hn
  clear hn
  have g4 : decide ((nk : Int) > 0) = true := by simpa using hnk
  have g5 : decide (0 < (nk : Int)) = true := by simpa using hnk
  have g6 : decide (0 < nk) = true := by simpa using hnk
  go_enter Tryd.func15, Tryd.ntmps15
  go_wp2_with (first
    | (go_at_call 49; go_must (refine (HN.out _).mono ?_); rintro e w1 ⟨rfl, hb1⟩; have hc1 := fun o => (bcell hb1).1 w.heap.size o (by first | (simp; done) | assumption | (simp; omega)); have z1 : w.heap.size < w1.heap.size := zz hb1 (by simp))
    | (go_at_call 50; go_must (refine (HV.out _).mono ?_); rintro e w2 ⟨rfl, hb2⟩; have hc2 := fun o => (bcell hb2).1 w.heap.size o (by first | (simp; done) | assumption | (simp; omega))))
  go_ret
  exact ⟨rfl, by repeat (with_reducible (first | exact Below.refl _ _ | assumption | apply ba | apply bd | apply bdr | (refine bs ?_ (by first | assumption | (simp; done) | (simp; omega))) | (refine bt ?_ (by assumption))))⟩
theorem rf4_n (n v : List UInt8) (A : Option Addr) (np nk ac : Nat) (K : Option Addr) (kc d : Nat) (w : World) (hd : d ≤ 64) (hn : n ≠ []) : Calls Tryd.prog 15 #[.agg #[.int .i64 4, .string (ba' n), .string (ba' v), .slice A np ac, .slice K nk kc], .int .i64 (d : Int)] w fun e w' => e = .returned (.bool false) ∧ Below w.heap.size w w' := by
  have gd : decide ((d : Int) > 64) = false := by simp; omega
  have gd2 : decide (64 < (d : Int)) = false := by simp; omega
  have gn := isN hn
  clear hn
  go_enter Tryd.func15, Tryd.ntmps15
  go_wp2
  go_ret
  exact ⟨rfl, by repeat (with_reducible (first | exact Below.refl _ _ | assumption | apply ba | apply bd | apply bdr | (refine bs ?_ (by first | assumption | (simp; done) | (simp; omega))) | (refine bt ?_ (by assumption))))⟩
theorem rf4_m (n v : List UInt8) (A : Option Addr) (np nk ac : Nat) (K : Option Addr) (kc d : Nat) (w : World) (hd : d ≤ 64) (hn : n = []) (HV : Hid (Gives 50 #[.string (ba' v)] (.bool false))) : Calls Tryd.prog 15 #[.agg #[.int .i64 4, .string (ba' n), .string (ba' v), .slice A np ac, .slice K nk kc], .int .i64 (d : Int)] w fun e w' => e = .returned (.bool false) ∧ Below w.heap.size w w' := by
  have gd : decide ((d : Int) > 64) = false := by simp; omega
  have gd2 : decide (64 < (d : Int)) = false := by simp; omega
  have gn := isE hn
  clear hn
  go_enter Tryd.func15, Tryd.ntmps15
  go_wp2_with (first
    | (go_at_call 50; go_must (refine (HV.out _).mono ?_); rintro e w2 ⟨rfl, hb2⟩; have hc2 := fun o => (bcell hb2).1 w.heap.size o (by first | (simp; done) | assumption | (simp; omega))))
  go_ret
  exact ⟨rfl, by repeat (with_reducible (first | exact Below.refl _ _ | assumption | apply ba | apply bd | apply bdr | (refine bs ?_ (by first | assumption | (simp; done) | (simp; omega))) | (refine bt ?_ (by assumption))))⟩
theorem rf4_v (n v : List UInt8) (A : Option Addr) (np nk ac : Nat) (K : Option Addr) (kc d : Nat) (w : World) (hd : d ≤ 64) (hn : n = []) (hv : v = []) (HV : Hid (Gives 50 #[.string (ba' v)] (.bool true))) : Calls Tryd.prog 15 #[.agg #[.int .i64 4, .string (ba' n), .string (ba' v), .slice A np ac, .slice K nk kc], .int .i64 (d : Int)] w fun e w' => e = .returned (.bool false) ∧ Below w.heap.size w w' := by
  have gd : decide ((d : Int) > 64) = false := by simp; omega
  have gd2 : decide (64 < (d : Int)) = false := by simp; omega
  have gn := isE hn
  clear hn
  have gv := isE hv
  clear hv
  go_enter Tryd.func15, Tryd.ntmps15
  go_wp2_with (first
    | (go_at_call 50; go_must (refine (HV.out _).mono ?_); rintro e w2 ⟨rfl, hb2⟩; have hc2 := fun o => (bcell hb2).1 w.heap.size o (by first | (simp; done) | assumption | (simp; omega))))
  go_ret
  exact ⟨rfl, by repeat (with_reducible (first | exact Below.refl _ _ | assumption | apply ba | apply bd | apply bdr | (refine bs ?_ (by first | assumption | (simp; done) | (simp; omega))) | (refine bt ?_ (by assumption))))⟩
theorem rf4_p (n v : List UInt8) (A : Option Addr) (np nk ac : Nat) (K : Option Addr) (kc d : Nat) (w : World) (hd : d ≤ 64) (hn : n = []) (hv : v ≠ []) (HV : Hid (Gives 50 #[.string (ba' v)] (.bool true))) (hnp : 0 < np) : Calls Tryd.prog 15 #[.agg #[.int .i64 4, .string (ba' n), .string (ba' v), .slice A np ac, .slice K nk kc], .int .i64 (d : Int)] w fun e w' => e = .returned (.bool false) ∧ Below w.heap.size w w' := by
  have gd : decide ((d : Int) > 64) = false := by simp; omega
  have gd2 : decide (64 < (d : Int)) = false := by simp; omega
  have gn := isE hn
  clear hn
  have gv := isN hv
  clear hv
  have g1 : decide ((np : Int) > 0) = true := by simpa using hnp
  have g2 : decide (0 < (np : Int)) = true := by simpa using hnp
  have g3 : decide (0 < np) = true := by simpa using hnp
  go_enter Tryd.func15, Tryd.ntmps15
  go_wp2_with (first
    | (go_at_call 50; go_must (refine (HV.out _).mono ?_); rintro e w2 ⟨rfl, hb2⟩; have hc2 := fun o => (bcell hb2).1 w.heap.size o (by first | (simp; done) | assumption | (simp; omega))))
  go_ret
  exact ⟨rfl, by repeat (with_reducible (first | exact Below.refl _ _ | assumption | apply ba | apply bd | apply bdr | (refine bs ?_ (by first | assumption | (simp; done) | (simp; omega))) | (refine bt ?_ (by assumption))))⟩
theorem rf4_k (n v : List UInt8) (A : Option Addr) (nk ac : Nat) (K : Option Addr) (kc d : Nat) (w : World) (hd : d ≤ 64) (hn : n = []) (hv : v ≠ []) (HV : Hid (Gives 50 #[.string (ba' v)] (.bool true))) (hnk : 0 < nk) : Calls Tryd.prog 15 #[.agg #[.int .i64 4, .string (ba' n), .string (ba' v), .slice A 0 ac, .slice K nk kc], .int .i64 (d : Int)] w fun e w' => e = .returned (.bool false) ∧ Below w.heap.size w w' := by
  have gd : decide ((d : Int) > 64) = false := by simp; omega
  have gd2 : decide (64 < (d : Int)) = false := by simp; omega
  have gn := isE hn
  clear hn
  have gv := isN hv
  clear hv
  have g4 : decide ((nk : Int) > 0) = true := by simpa using hnk
  have g5 : decide (0 < (nk : Int)) = true := by simpa using hnk
  have g6 : decide (0 < nk) = true := by simpa using hnk
  go_enter Tryd.func15, Tryd.ntmps15
  go_wp2_with (first
    | (go_at_call 50; go_must (refine (HV.out _).mono ?_); rintro e w2 ⟨rfl, hb2⟩; have hc2 := fun o => (bcell hb2).1 w.heap.size o (by first | (simp; done) | assumption | (simp; omega))))
  go_ret
  exact ⟨rfl, by repeat (with_reducible (first | exact Below.refl _ _ | assumption | apply ba | apply bd | apply bdr | (refine bs ?_ (by first | assumption | (simp; done) | (simp; omega))) | (refine bt ?_ (by assumption))))⟩
theorem rf5_n (n v : List UInt8) (A : Option Addr) (np nk ac : Nat) (K : Option Addr) (kc d : Nat) (w : World) (hd : d ≤ 64) (hn : n ≠ []) : Calls Tryd.prog 15 #[.agg #[.int .i64 5, .string (ba' n), .string (ba' v), .slice A np ac, .slice K nk kc], .int .i64 (d : Int)] w fun e w' => e = .returned (.bool false) ∧ Below w.heap.size w w' := by
  have gd : decide ((d : Int) > 64) = false := by simp; omega
  have gd2 : decide (64 < (d : Int)) = false := by simp; omega
  have gn := isN hn
  clear hn
  go_enter Tryd.func15, Tryd.ntmps15
  go_wp2
  go_ret
  exact ⟨rfl, by repeat (with_reducible (first | exact Below.refl _ _ | assumption | apply ba | apply bd | apply bdr | (refine bs ?_ (by first | assumption | (simp; done) | (simp; omega))) | (refine bt ?_ (by assumption))))⟩
theorem rf5_m (n v : List UInt8) (A : Option Addr) (np nk ac : Nat) (K : Option Addr) (kc d : Nat) (w : World) (hd : d ≤ 64) (hn : n = []) (HV : Hid (Gives 50 #[.string (ba' v)] (.bool false))) : Calls Tryd.prog 15 #[.agg #[.int .i64 5, .string (ba' n), .string (ba' v), .slice A np ac, .slice K nk kc], .int .i64 (d : Int)] w fun e w' => e = .returned (.bool false) ∧ Below w.heap.size w w' := by
  have gd : decide ((d : Int) > 64) = false := by simp; omega
  have gd2 : decide (64 < (d : Int)) = false := by simp; omega
  have gn := isE hn
  clear hn
  go_enter Tryd.func15, Tryd.ntmps15
  go_wp2_with (first
    | (go_at_call 50; go_must (refine (HV.out _).mono ?_); rintro e w2 ⟨rfl, hb2⟩; have hc2 := fun o => (bcell hb2).1 w.heap.size o (by first | (simp; done) | assumption | (simp; omega))))
  go_ret
  exact ⟨rfl, by repeat (with_reducible (first | exact Below.refl _ _ | assumption | apply ba | apply bd | apply bdr | (refine bs ?_ (by first | assumption | (simp; done) | (simp; omega))) | (refine bt ?_ (by assumption))))⟩
theorem rf5_p (n v : List UInt8) (A : Option Addr) (np nk ac : Nat) (K : Option Addr) (kc d : Nat) (w : World) (hd : d ≤ 64) (hn : n = []) (HV : Hid (Gives 50 #[.string (ba' v)] (.bool true))) (hnp : 0 < np) : Calls Tryd.prog 15 #[.agg #[.int .i64 5, .string (ba' n), .string (ba' v), .slice A np ac, .slice K nk kc], .int .i64 (d : Int)] w fun e w' => e = .returned (.bool false) ∧ Below w.heap.size w w' := by
  have gd : decide ((d : Int) > 64) = false := by simp; omega
  have gd2 : decide (64 < (d : Int)) = false := by simp; omega
  have gn := isE hn
  clear hn
  have g1 : decide ((np : Int) > 0) = true := by simpa using hnp
  have g2 : decide (0 < (np : Int)) = true := by simpa using hnp
  have g3 : decide (0 < np) = true := by simpa using hnp
  go_enter Tryd.func15, Tryd.ntmps15
  go_wp2_with (first
    | (go_at_call 50; go_must (refine (HV.out _).mono ?_); rintro e w2 ⟨rfl, hb2⟩; have hc2 := fun o => (bcell hb2).1 w.heap.size o (by first | (simp; done) | assumption | (simp; omega))))
  go_ret
  exact ⟨rfl, by repeat (with_reducible (first | exact Below.refl _ _ | assumption | apply ba | apply bd | apply bdr | (refine bs ?_ (by first | assumption | (simp; done) | (simp; omega))) | (refine bt ?_ (by assumption))))⟩
theorem rf5_k (n v : List UInt8) (A : Option Addr) (nk ac : Nat) (K : Option Addr) (kc d : Nat) (w : World) (hd : d ≤ 64) (hn : n = []) (HV : Hid (Gives 50 #[.string (ba' v)] (.bool true))) (hnk : 0 < nk) : Calls Tryd.prog 15 #[.agg #[.int .i64 5, .string (ba' n), .string (ba' v), .slice A 0 ac, .slice K nk kc], .int .i64 (d : Int)] w fun e w' => e = .returned (.bool false) ∧ Below w.heap.size w w' := by
  have gd : decide ((d : Int) > 64) = false := by simp; omega
  have gd2 : decide (64 < (d : Int)) = false := by simp; omega
  have gn := isE hn
  clear hn
  have g4 : decide ((nk : Int) > 0) = true := by simpa using hnk
  have g5 : decide (0 < (nk : Int)) = true := by simpa using hnk
  have g6 : decide (0 < nk) = true := by simpa using hnk
  go_enter Tryd.func15, Tryd.ntmps15
  go_wp2_with (first
    | (go_at_call 50; go_must (refine (HV.out _).mono ?_); rintro e w2 ⟨rfl, hb2⟩; have hc2 := fun o => (bcell hb2).1 w.heap.size o (by first | (simp; done) | assumption | (simp; omega))))
  go_ret
  exact ⟨rfl, by repeat (with_reducible (first | exact Below.refl _ _ | assumption | apply ba | apply bd | apply bdr | (refine bs ?_ (by first | assumption | (simp; done) | (simp; omega))) | (refine bt ?_ (by assumption))))⟩
theorem rf_deep (k : Int) (n v : List UInt8) (A : Option Addr) (np ac : Nat) (K : Option Addr) (nk kc d : Nat) (w : World) (hd : 64 < d) : Calls Tryd.prog 15 #[.agg #[.int .i64 k, .string (ba' n), .string (ba' v), .slice A np ac, .slice K nk kc], .int .i64 (d : Int)] w fun e w' => e = .returned (.bool false) ∧ Below w.heap.size w w' := by
  have gd : decide ((d : Int) > 64) = true := by simp; omega
  have gd2 : decide (64 < (d : Int)) = true := by simp; omega
  go_enter Tryd.func15, Tryd.ntmps15
  go_wp2
  go_ret
  exact ⟨rfl, by repeat (with_reducible (first | exact Below.refl _ _ | assumption | apply ba | apply bd | apply bdr | (refine bs ?_ (by first | assumption | (simp; done) | (simp; omega))) | (refine bt ?_ (by assumption))))⟩
theorem rf_low (k : Int) (n v : List UInt8) (A : Option Addr) (np ac : Nat) (K : Option Addr) (nk kc d : Nat) (w : World) (hd : d ≤ 64) (hk : k < 1) : Calls Tryd.prog 15 #[.agg #[.int .i64 k, .string (ba' n), .string (ba' v), .slice A np ac, .slice K nk kc], .int .i64 (d : Int)] w fun e w' => e = .returned (.bool false) ∧ Below w.heap.size w w' := by
  have gd : decide ((d : Int) > 64) = false := by simp; omega
  have gd2 : decide (64 < (d : Int)) = false := by simp; omega
  have g1 : decide (k < 1) = true := by simpa using hk
  go_enter Tryd.func15, Tryd.ntmps15
  go_wp2
  go_ret
  exact ⟨rfl, by repeat (with_reducible (first | exact Below.refl _ _ | assumption | apply ba | apply bd | apply bdr | (refine bs ?_ (by first | assumption | (simp; done) | (simp; omega))) | (refine bt ?_ (by assumption))))⟩
theorem rf_high (k : Int) (n v : List UInt8) (A : Option Addr) (np ac : Nat) (K : Option Addr) (nk kc d : Nat) (w : World) (hd : d ≤ 64) (hk : 5 < k) : Calls Tryd.prog 15 #[.agg #[.int .i64 k, .string (ba' n), .string (ba' v), .slice A np ac, .slice K nk kc], .int .i64 (d : Int)] w fun e w' => e = .returned (.bool false) ∧ Below w.heap.size w w' := by
  have gd : decide ((d : Int) > 64) = false := by simp; omega
  have gd2 : decide (64 < (d : Int)) = false := by simp; omega
  have g1 : decide (k < 1) = false := by simp; omega
  have g2 : decide (k > 5) = true := by simpa using hk
  have g3 : decide (5 < k) = true := by simpa using hk
  go_enter Tryd.func15, Tryd.ntmps15
  go_wp2
  go_ret
  exact ⟨rfl, by repeat (with_reducible (first | exact Below.refl _ _ | assumption | apply ba | apply bd | apply bdr | (refine bs ?_ (by first | assumption | (simp; done) | (simp; omega))) | (refine bt ?_ (by assumption))))⟩
end Go.Proofs.YtcmlfkoeajpliaaDoor
namespace Go.Proofs.YtcmlfkoeajpliaaDoor
open Go.RowKit Go.Lib
set_option maxRecDepth 100000
set_option maxHeartbeats 8000000
theorem rfp1 (n v : List UInt8) (A K : Option Addr) (ac kc d nk : Nat) (w : World) (P : Nat → Prop) (HP : Hid (∀ b, P b → b < w.heap.size)) (ks : List Tr) (HNK : Hid (ks.length = nk)) (HK : Hid (RdP P w 5 K nk (rowT ks))) (HL : Hid (InL P w ks)) (IH : Hid (∀ t ∈ ks, RefR t)) (HB : Hid (∀ t ∈ ks, t.pl.bulk ≤ 1048576)) (hnk : nk ≤ 1048576) (hd : d ≤ 64) (hn : n = []) (hv : v = []) (HV : Hid (Gives 50 #[.string (ba' v)] (.bool true))) : Calls Tryd.prog 15 #[.agg #[.int .i64 1, .string (ba' n), .string (ba' v), .slice A 0 ac, .slice K nk kc], .int .i64 (d : Int)] w fun e w' => e = .returned (.bool (rightL (plL ks) (d + 1) 0)) ∧ Below w.heap.size w w' := by
  have gd : decide ((d : Int) > 64) = false := by simp; omega
  have gd2 : decide (64 < (d : Int)) = false := by simp; omega
  have gn := isE hn
  clear hn
  have gv := isE hv
  clear hv
  obtain ⟨res, hres⟩ : ∃ res, (rightL (plL ks) (d + 1) 0) = res := ⟨_, rfl⟩
  rw [hres]
  have HS := Lib.hid hres
  clear hres
  go_enter Tryd.func15, Tryd.ntmps15
  go_wp2_with (first
    | (go_at_call 50; go_must (refine (HV.out _).mono ?_); rintro e w2 ⟨rfl, hb2⟩; have hc2 := fun o => (bcell hb2).1 w.heap.size o (by first | (simp; done) | assumption | (simp; omega))))
  go_loopw [7] (fun s7 wx => s7 = .int .i64 0 ∧ wx.cell? ⟨w.heap.size, 3, none⟩ = some (.slice A 0 ac) ∧ wx.cell? ⟨w.heap.size, 4, none⟩ = some (.slice K nk kc) ∧ w.heap.size < wx.heap.size ∧ Below w.heap.size w wx) (fun _ _ => 0)
  case atStart => exact ⟨rfl, (by first | assumption | (simp [*]; done)), (by first | assumption | (simp [*]; done)), (by first | assumption | (simp; done) | exact zz hb1 (by assumption) | exact zz hb2 (by assumption) | exact zz hb2 (by simp) | exact zz hb1 (by simp) | (simp; omega)), by repeat (with_reducible (first | exact Below.refl _ _ | assumption | apply ba | apply bd | apply bdr | (refine bs ?_ (by first | assumption | (simp; done) | (simp; omega))) | (refine bt ?_ (by assumption))))⟩
  case round =>
    obtain ⟨rfl, hb3, hb4, hsz, hBW⟩ := hrel
    go_wp2
    go_loopw [9] (fun s9 wx => ∃ q : Nat, s9 = .int .i64 q ∧ q ≤ nk ∧ Hid (rightL ((plL ks).drop q) (d + 1) (lastK ks q) = res) ∧ wx.cell? ⟨w.heap.size, 3, none⟩ = some (.slice A 0 ac) ∧ wx.cell? ⟨w.heap.size, 4, none⟩ = some (.slice K nk kc) ∧ w.heap.size < wx.heap.size ∧ Below w.heap.size w wx) (fun s9 _ => nk - (intOf s9).toNat)
    case atStart => exact ⟨0, rfl, Nat.zero_le _, Lib.hid (by rw [← HS.out]; rfl), (by first | assumption | (simp [*]; done)), (by first | assumption | (simp [*]; done)), (by first | assumption | (simp; done) | exact zz hb1 (by assumption) | exact zz hb2 (by assumption) | exact zz hb2 (by simp) | exact zz hb1 (by simp) | (simp; omega)), by repeat (with_reducible (first | exact Below.refl _ _ | assumption | apply ba | apply bd | apply bdr | (refine bs ?_ (by first | assumption | (simp; done) | (simp; omega))) | (refine bt ?_ (by assumption))))⟩
    case round =>
      obtain ⟨q, rfl, hq, hrel, hb3, hb4, hsz, hBW⟩ := hrel
      by_cases hql : q < nk
      · have g1 : decide ((q : Int) < (nk : Int)) = true := by first | (simp; done) | (simp; omega)
        have hqk : q < ks.length := by rw [HNK.out]; exact hql
        obtain ⟨t, ht⟩ : ∃ t, ks[q]? = some t := ⟨_, List.getElem?_eq_getElem hqk⟩
        have htm := List.mem_of_getElem? ht
        have hst : rightL ((plL ks).drop q) (d + 1) (lastK ks q) = (kidR t.pl.k (lastK ks q) && t.pl.right (d + 1) && rightL ((plL ks).drop (q + 1)) (d + 1) (lastK ks (q + 1))) := by
          rw [drop_at (plL_at ht), rightL]
          congr 1
          show _ = rightL _ _ (((ks[q]?).map fun t => t.pl.k).getD 0)
          rw [ht]; rfl
        have hc := IH.out t htm P
        have hin' := (inL_iff.1 HL.out t htm).below HP.out hBW
        have hbk := HB.out t htm
        have HTQ := Lib.hid ht
        obtain ⟨k', n', v', A', ac', ps', K', kc', ks'⟩ := t
        have hka := HK.out.below HP.out hBW
        obtain ⟨ad2, rfl, hPad2, d0, d1, d2, d3, d4⟩ := kid_at hka ht hql
        have hb0 : (ad2.add (q * 5)).block < wr.heap.size := by rw [block_of_add]; exact Nat.lt_of_lt_of_le (HP.out _ hPad2) hBW.size
        have HST := Lib.hid (hst.symm.trans hrel.out)
        have hkk : (Tr.mk k' n' v' A' ac' ps' K' kc' ks').pl.k = k' := rfl
        rw [hkk] at hst HST
        have HC := Lib.hid (hc wr (d + 1) hin' (fun b hb => Nat.lt_of_lt_of_le (HP.out b hb) hBW.size) hbk (by omega))
        obtain ⟨r, hr⟩ : ∃ r, (Tr.mk k' n' v' A' ac' ps' K' kc' ks').pl.right (d + 1) = r := ⟨_, rfl⟩
        rw [hr] at HC HST
        obtain ⟨np', hnp'⟩ : ∃ q, ps'.length = q := ⟨_, rfl⟩
        obtain ⟨nk', hnk'⟩ : ∃ q, ks'.length = q := ⟨_, rfl⟩
        simp only [Tr.v] at HC
        rw [hnp', hnk'] at HC
        rw [hnp'] at d3
        rw [hnk'] at d4
        have HD : Hid (((d + 1 : Nat) : Int) = (d : Int) + 1) := Lib.hid (by push_cast; rfl)
        rw [HD.out] at HC
        clear hst hc hin' hka ht htm hqk hr hkk hnp' hnk' hbk hrel
        by_cases hk : k' = 2 ∨ k' = 4 ∨ k' = 5
        · rcases hk with rfl | rfl | rfl
          · cases r with
            | false =>
              have hr : res = false := by rw [← HST.out, Bool.and_false]; rfl
              subst hr
              go_wp2_with (go_at_call 15; go_must (refine HC.out.mono ?_); rintro e w1 ⟨rfl, hb1⟩; have hc1 := fun o => (bcell hb1).1 w.heap.size o hsz; have z1 := zz hb1 hsz)
              go_ret
              exact ⟨rfl, by repeat (with_reducible (first | exact Below.refl _ _ | assumption | apply ba | apply bd | apply bdr | (refine bs ?_ (by first | assumption | (simp; done) | (simp; omega))) | (refine bt ?_ (by assumption))))⟩
            | true =>
              have HN2 : Hid (rightL ((plL ks).drop (q + 1)) (d + 1) (lastK ks (q + 1)) = res) := Lib.hid (by rw [← HST.out]; simp [kidR])
              rcases Nat.eq_zero_or_pos q with h0 | h0
              · have gq : decide ((q : Int) > 0) = false := by first | (simp; done) | (simp; omega)
                have gq2 : decide (0 < (q : Int)) = false := by first | (simp; done) | (simp; omega)
                have gq3 : decide (0 < q) = false := by simp; omega
                clear h0
                go_wp2_with (go_at_call 15; go_must (refine HC.out.mono ?_); rintro e w1 ⟨rfl, hb1⟩; have hc1 := fun o => (bcell hb1).1 w.heap.size o hsz; have z1 := zz hb1 hsz)
                go_roundw
                case rel => exact ⟨q + 1, by go_num, by omega, HN2, (by first | assumption | (simp [*]; done)), (by first | assumption | (simp [*]; done)), (by first | assumption | (simp; done) | exact zz hb1 (by assumption) | exact zz hb2 (by assumption) | exact zz hb2 (by simp) | exact zz hb1 (by simp) | (simp; omega)), by repeat (with_reducible (first | exact Below.refl _ _ | assumption | apply ba | apply bd | apply bdr | (refine bs ?_ (by first | assumption | (simp; done) | (simp; omega))) | (refine bt ?_ (by assumption))))⟩
                case measure => simp [intOf]; omega
              · have gq : decide ((q : Int) > 0) = true := by first | (simp; done) | (simp; omega)
                have gq2 : decide (0 < (q : Int)) = true := by first | (simp; done) | (simp; omega)
                have gq3 : decide (0 < q) = true := by simpa using h0
                go_wp2_with (go_at_call 15; go_must (refine HC.out.mono ?_); rintro e w1 ⟨rfl, hb1⟩; have hc1 := fun o => (bcell hb1).1 w.heap.size o hsz; have z1 := zz hb1 hsz)
                go_roundw
                case rel => exact ⟨q + 1, by go_num, by omega, HN2, (by first | assumption | (simp [*]; done)), (by first | assumption | (simp [*]; done)), (by first | assumption | (simp; done) | exact zz hb1 (by assumption) | exact zz hb2 (by assumption) | exact zz hb2 (by simp) | exact zz hb1 (by simp) | (simp; omega)), by repeat (with_reducible (first | exact Below.refl _ _ | assumption | apply ba | apply bd | apply bdr | (refine bs ?_ (by first | assumption | (simp; done) | (simp; omega))) | (refine bt ?_ (by assumption))))⟩
                case measure => simp [intOf]; omega
          · cases r with
            | false =>
              have hr : res = false := by rw [← HST.out, Bool.and_false]; rfl
              subst hr
              go_wp2_with (go_at_call 15; go_must (refine HC.out.mono ?_); rintro e w1 ⟨rfl, hb1⟩; have hc1 := fun o => (bcell hb1).1 w.heap.size o hsz; have z1 := zz hb1 hsz)
              go_ret
              exact ⟨rfl, by repeat (with_reducible (first | exact Below.refl _ _ | assumption | apply ba | apply bd | apply bdr | (refine bs ?_ (by first | assumption | (simp; done) | (simp; omega))) | (refine bt ?_ (by assumption))))⟩
            | true =>
              rcases Nat.eq_zero_or_pos q with h0 | h0
              · have hl0 : lastK ks q = 0 := by rw [h0]; rfl
                have HN2 : Hid (rightL ((plL ks).drop (q + 1)) (d + 1) (lastK ks (q + 1)) = res) := Lib.hid (by rw [← HST.out, hl0]; simp [kidR])
                have gq : decide ((q : Int) > 0) = false := by first | (simp; done) | (simp; omega)
                have gq2 : decide (0 < (q : Int)) = false := by first | (simp; done) | (simp; omega)
                have gq3 : decide (0 < q) = false := by simp; omega
                clear h0
                clear hl0
                go_wp2_with (go_at_call 15; go_must (refine HC.out.mono ?_); rintro e w1 ⟨rfl, hb1⟩; have hc1 := fun o => (bcell hb1).1 w.heap.size o hsz; have z1 := zz hb1 hsz)
                go_roundw
                case rel => exact ⟨q + 1, by go_num, by omega, HN2, (by first | assumption | (simp [*]; done)), (by first | assumption | (simp [*]; done)), (by first | assumption | (simp; done) | exact zz hb1 (by assumption) | exact zz hb2 (by assumption) | exact zz hb2 (by simp) | exact zz hb1 (by simp) | (simp; omega)), by repeat (with_reducible (first | exact Below.refl _ _ | assumption | apply ba | apply bd | apply bdr | (refine bs ?_ (by first | assumption | (simp; done) | (simp; omega))) | (refine bt ?_ (by assumption))))⟩
                case measure => simp [intOf]; omega
              · obtain ⟨j, rfl⟩ : ∃ j, q = j + 1 := ⟨q - 1, by omega⟩
                have gq : decide (((j + 1 : Nat) : Int) > 0) = true := by first | (simp; done) | (simp; omega)
                have gq2 : decide (0 < ((j + 1 : Nat) : Int)) = true := by first | (simp; done) | (simp; omega)
                have gj : decide ((j : Int) < (nk : Int)) = true := by first | (simp; done) | (simp; omega)
                obtain ⟨x, hx⟩ : ∃ x, ks[j]? = some x := ⟨_, List.getElem?_eq_getElem (by rw [HNK.out]; omega)⟩
                have hlk : lastK ks (j + 1) = x.pl.k := by show ((ks[j]?).map fun t => t.pl.k).getD 0 = _; rw [hx]; rfl
                obtain ⟨kx, nx, vx, Ax, acx, psx, Kx, kcx, ksx⟩ := x
                obtain ⟨ad3, e3, hPad3, f0, _⟩ := kid_at (HK.out.below HP.out hBW) hx (by omega : j < nk)
                cases e3
                have hlk2 : lastK ks (j + 1) = kx := hlk
                have hb9 : (ad2.add (j * 5)).block < wr.heap.size := by rw [block_of_add]; exact Nat.lt_of_lt_of_le (HP.out _ hPad3) hBW.size
                by_cases h4 : kx = 4
                · have hr : res = false := by
                    rw [← HST.out, hlk2, h4]
                    have : kidR 4 4 = false := by decide
                    rw [this]; rfl
                  subst hr
                  subst h4
                  clear hx hlk hlk2
                  go_wp2_with (go_at_call 15; go_must (refine HC.out.mono ?_); rintro e w1 ⟨rfl, hb1⟩; have hc1 := fun o => (bcell hb1).1 w.heap.size o hsz; have z1 := zz hb1 hsz; have he1 := hb1.cell (p := ad2.add (j * 5)) hb9)
                  go_ret
                  exact ⟨rfl, by repeat (with_reducible (first | exact Below.refl _ _ | assumption | apply ba | apply bd | apply bdr | (refine bs ?_ (by first | assumption | (simp; done) | (simp; omega))) | (refine bt ?_ (by assumption))))⟩
                · have n4 : (kx == 4) = false := by simpa using h4
                  have HN2 : Hid (rightL ((plL ks).drop (j + 1 + 1)) (d + 1) (lastK ks (j + 1 + 1)) = res) := Lib.hid (by
                    rw [← HST.out, hlk2]
                    have : kidR 4 kx = true := by unfold kidR; rw [decide_eq_true_iff]; exact ⟨.inr (.inl rfl), fun h => h4 h.2⟩
                    rw [this]; rfl)
                  clear hx hlk hlk2 h4
                  go_wp2_with (go_at_call 15; go_must (refine HC.out.mono ?_); rintro e w1 ⟨rfl, hb1⟩; have hc1 := fun o => (bcell hb1).1 w.heap.size o hsz; have z1 := zz hb1 hsz; have he1 := hb1.cell (p := ad2.add (j * 5)) hb9)
                  go_roundw
                  case rel => exact ⟨j + 1 + 1, by go_num, by omega, HN2, (by first | assumption | (simp [*]; done)), (by first | assumption | (simp [*]; done)), (by first | assumption | (simp; done) | exact zz hb1 (by assumption) | exact zz hb2 (by assumption) | exact zz hb2 (by simp) | exact zz hb1 (by simp) | (simp; omega)), by repeat (with_reducible (first | exact Below.refl _ _ | assumption | apply ba | apply bd | apply bdr | (refine bs ?_ (by first | assumption | (simp; done) | (simp; omega))) | (refine bt ?_ (by assumption))))⟩
                  case measure => simp [intOf]; omega
          · cases r with
            | false =>
              have hr : res = false := by rw [← HST.out, Bool.and_false]; rfl
              subst hr
              go_wp2_with (go_at_call 15; go_must (refine HC.out.mono ?_); rintro e w1 ⟨rfl, hb1⟩; have hc1 := fun o => (bcell hb1).1 w.heap.size o hsz; have z1 := zz hb1 hsz)
              go_ret
              exact ⟨rfl, by repeat (with_reducible (first | exact Below.refl _ _ | assumption | apply ba | apply bd | apply bdr | (refine bs ?_ (by first | assumption | (simp; done) | (simp; omega))) | (refine bt ?_ (by assumption))))⟩
            | true =>
              have HN2 : Hid (rightL ((plL ks).drop (q + 1)) (d + 1) (lastK ks (q + 1)) = res) := Lib.hid (by rw [← HST.out]; simp [kidR])
              rcases Nat.eq_zero_or_pos q with h0 | h0
              · have gq : decide ((q : Int) > 0) = false := by first | (simp; done) | (simp; omega)
                have gq2 : decide (0 < (q : Int)) = false := by first | (simp; done) | (simp; omega)
                have gq3 : decide (0 < q) = false := by simp; omega
                clear h0
                go_wp2_with (go_at_call 15; go_must (refine HC.out.mono ?_); rintro e w1 ⟨rfl, hb1⟩; have hc1 := fun o => (bcell hb1).1 w.heap.size o hsz; have z1 := zz hb1 hsz)
                go_roundw
                case rel => exact ⟨q + 1, by go_num, by omega, HN2, (by first | assumption | (simp [*]; done)), (by first | assumption | (simp [*]; done)), (by first | assumption | (simp; done) | exact zz hb1 (by assumption) | exact zz hb2 (by assumption) | exact zz hb2 (by simp) | exact zz hb1 (by simp) | (simp; omega)), by repeat (with_reducible (first | exact Below.refl _ _ | assumption | apply ba | apply bd | apply bdr | (refine bs ?_ (by first | assumption | (simp; done) | (simp; omega))) | (refine bt ?_ (by assumption))))⟩
                case measure => simp [intOf]; omega
              · have gq : decide ((q : Int) > 0) = true := by first | (simp; done) | (simp; omega)
                have gq2 : decide (0 < (q : Int)) = true := by first | (simp; done) | (simp; omega)
                have gq3 : decide (0 < q) = true := by simpa using h0
                go_wp2_with (go_at_call 15; go_must (refine HC.out.mono ?_); rintro e w1 ⟨rfl, hb1⟩; have hc1 := fun o => (bcell hb1).1 w.heap.size o hsz; have z1 := zz hb1 hsz)
                go_roundw
                case rel => exact ⟨q + 1, by go_num, by omega, HN2, (by first | assumption | (simp [*]; done)), (by first | assumption | (simp [*]; done)), (by first | assumption | (simp; done) | exact zz hb1 (by assumption) | exact zz hb2 (by assumption) | exact zz hb2 (by simp) | exact zz hb1 (by simp) | (simp; omega)), by repeat (with_reducible (first | exact Below.refl _ _ | assumption | apply ba | apply bd | apply bdr | (refine bs ?_ (by first | assumption | (simp; done) | (simp; omega))) | (refine bt ?_ (by assumption))))⟩
                case measure => simp [intOf]; omega
        · have n2 : (k' == 2) = false := by simp; omega
          have n4 : (k' == 4) = false := by simp; omega
          have n5 : (k' == 5) = false := by simp; omega
          have m2 : (k' != 2) = true := by simp; omega
          have m4 : (k' != 4) = true := by simp; omega
          have m5 : (k' != 5) = true := by simp; omega
          have hr : res = false := by
            rw [← HST.out]
            have : kidR k' (lastK ks q) = false := by unfold kidR; rw [decide_eq_false_iff_not]; exact fun h => hk h.1
            rw [this]; rfl
          subst hr
          clear hk
          go_wp2
          go_ret
          exact ⟨rfl, by repeat (with_reducible (first | exact Below.refl _ _ | assumption | apply ba | apply bd | apply bdr | (refine bs ?_ (by first | assumption | (simp; done) | (simp; omega))) | (refine bt ?_ (by assumption))))⟩
      · obtain rfl : q = nk := by omega
        have g1 : decide (((q : Nat) : Int) < ((q : Nat) : Int)) = false := by simp
        have hr : res = true := by
          rw [← hrel.out, List.drop_eq_nil_of_le (by rw [plL_len, HNK.out]; exact Nat.le_refl _), rightL]
        subst hr
        go_wp2
        go_ret
        exact ⟨rfl, by repeat (with_reducible (first | exact Below.refl _ _ | assumption | apply ba | apply bd | apply bdr | (refine bs ?_ (by first | assumption | (simp; done) | (simp; omega))) | (refine bt ?_ (by assumption))))⟩
theorem rfp2 (n v : List UInt8) (A K : Option Addr) (ac kc d np nk : Nat) (w : World) (P : Nat → Prop) (HP : Hid (∀ b, P b → b < w.heap.size)) (ps : List (List UInt8 × List UInt8)) (HNP : Hid (ps.length = np)) (HA : Hid (RdP P w 2 A np (rowP ps))) (HPL : Hid (∀ p ∈ ps, p.1.length ≤ 1048576 ∧ p.2.length ≤ 1048576)) (hnp : np ≤ 1048576) (ks : List Tr) (HNK : Hid (ks.length = nk)) (HK : Hid (RdP P w 5 K nk (rowT ks))) (HL : Hid (InL P w ks)) (IH : Hid (∀ t ∈ ks, RefR t)) (HB : Hid (∀ t ∈ ks, t.pl.bulk ≤ 1048576)) (hnk : nk ≤ 1048576) (hd : d ≤ 64) (hn : n ≠ []) (hv : v = []) (HN : Hid (Gives 49 #[.string (ba' n)] (.bool true))) (HV : Hid (Gives 50 #[.string (ba' v)] (.bool true))) : Calls Tryd.prog 15 #[.agg #[.int .i64 2, .string (ba' n), .string (ba' v), .slice A np ac, .slice K nk kc], .int .i64 (d : Int)] w fun e w' => e = .returned (.bool (pairsR ps && rightL (plL ks) (d + 1) 0)) ∧ Below w.heap.size w w' := by
  have gd : decide ((d : Int) > 64) = false := by simp; omega
  have gd2 : decide (64 < (d : Int)) = false := by simp; omega
  have gn := isN hn
  clear hn
  have gv := isE hv
  clear hv
  obtain ⟨res, hres⟩ : ∃ res, (pairsR ps && rightL (plL ks) (d + 1) 0) = res := ⟨_, rfl⟩
  rw [hres]
  have HS := Lib.hid hres
  clear hres
  go_enter Tryd.func15, Tryd.ntmps15
  go_wp2_with (first
    | (go_at_call 49; go_must (refine (HN.out _).mono ?_); rintro e w1 ⟨rfl, hb1⟩; have hc1 := fun o => (bcell hb1).1 w.heap.size o (by first | (simp; done) | assumption | (simp; omega)); have z1 : w.heap.size < w1.heap.size := zz hb1 (by simp))
    | (go_at_call 50; go_must (refine (HV.out _).mono ?_); rintro e w2 ⟨rfl, hb2⟩; have hc2 := fun o => (bcell hb2).1 w.heap.size o (by first | (simp; done) | assumption | (simp; omega))))
  go_loopw [7] (fun s7 wx => ∃ i : Nat, s7 = .int .i64 i ∧ i ≤ np ∧ Hid (pairsR (ps.take i) = true) ∧ wx.cell? ⟨w.heap.size, 3, none⟩ = some (.slice A np ac) ∧ wx.cell? ⟨w.heap.size, 4, none⟩ = some (.slice K nk kc) ∧ w.heap.size < wx.heap.size ∧ Below w.heap.size w wx) (fun s7 _ => np - (intOf s7).toNat)
  case atStart => exact ⟨0, rfl, Nat.zero_le _, Lib.hid rfl, (by first | assumption | (simp [*]; done)), (by first | assumption | (simp [*]; done)), (by first | assumption | (simp; done) | exact zz hb1 (by assumption) | exact zz hb2 (by assumption) | exact zz hb2 (by simp) | exact zz hb1 (by simp) | (simp; omega)), by repeat (with_reducible (first | exact Below.refl _ _ | assumption | apply ba | apply bd | apply bdr | (refine bs ?_ (by first | assumption | (simp; done) | (simp; omega))) | (refine bt ?_ (by assumption))))⟩
  case round =>
    obtain ⟨i, rfl, hi, hall, hb3, hb4, hsz, hBW⟩ := hrel
    by_cases hlt : i < np
    · have g0 : decide ((i : Int) < (np : Int)) = true := by first | (simp; done) | (simp; omega)
      have hil : i < ps.length := by rw [HNP.out]; exact hlt
      obtain ⟨p, hp⟩ : ∃ p, ps[i]? = some p := ⟨_, List.getElem?_eq_getElem hil⟩
      have HPI := Lib.hid hp
      have hpl := HPL.out p (List.mem_of_getElem? hp)
      obtain ⟨p1, p2⟩ := p
      obtain ⟨r1, h1⟩ : ∃ r, nameX p1 = r := ⟨_, rfl⟩
      obtain ⟨r2, h2⟩ : ∃ r, validX p2 = r := ⟨_, rfl⟩
      have HN1 := nameR_g p1 hpl.1 r1 h1
      have HV1 := validR_g p2 hpl.2 r2 h2
      have H1 := Lib.hid h1
      have H2 := Lib.hid h2
      obtain ⟨ad, rfl, hPad, d0, d1⟩ := pair_at (HA.out.below HP.out hBW) hp hlt
      have hb0 : (ad.add (i * 2)).block < wr.heap.size := by rw [block_of_add]; exact Nat.lt_of_lt_of_le (HP.out _ hPad) hBW.size
      clear hp hpl h1 h2 hil
      cases r1 with
      | false =>
        have hr : res = false := by rw [← HS.out, pairs_bad HPI.out (.inl H1.out)]; rfl
        subst hr
        go_wp2_with (go_at_call 49; go_must (refine (HN1.out _).mono ?_); rintro e w1 ⟨rfl, hb1⟩)
        go_ret
        exact ⟨rfl, by repeat (with_reducible (first | exact Below.refl _ _ | assumption | apply ba | apply bd | apply bdr | (refine bs ?_ (by first | assumption | (simp; done) | (simp; omega))) | (refine bt ?_ (by assumption))))⟩
      | true =>
        cases r2 with
        | false =>
          have hr : res = false := by rw [← HS.out, pairs_bad HPI.out (.inr H2.out)]; rfl
          subst hr
          go_wp2_with (first
            | (go_at_call 49; go_must (refine (HN1.out _).mono ?_); rintro e w1 ⟨rfl, hb1⟩; have hc1 := fun o => (bcell hb1).1 w.heap.size o hsz; have he1 := fun q => (bcell hb1).1 (ad.add (i * 2)).block q hb0; have z1 := zz hb1 hsz)
            | (go_at_call 50; go_must (refine (HV1.out _).mono ?_); rintro e w2 ⟨rfl, hb2⟩))
          go_ret
          exact ⟨rfl, by repeat (with_reducible (first | exact Below.refl _ _ | assumption | apply ba | apply bd | apply bdr | (refine bs ?_ (by first | assumption | (simp; done) | (simp; omega))) | (refine bt ?_ (by assumption))))⟩
        | true =>
          go_wp2_with (first
            | (go_at_call 49; go_must (refine (HN1.out _).mono ?_); rintro e w1 ⟨rfl, hb1⟩; have hc1 := fun o => (bcell hb1).1 w.heap.size o hsz; have he1 := fun q => (bcell hb1).1 (ad.add (i * 2)).block q hb0; have z1 := zz hb1 hsz)
            | (go_at_call 50; go_must (refine (HV1.out _).mono ?_); rintro e w2 ⟨rfl, hb2⟩; have hc2 := fun o => (bcell hb2).1 w.heap.size o z1; have z2 := zz hb2 z1))
          go_loopw [8] (fun s8 wx => ∃ j : Nat, s8 = .int .i64 j ∧ j ≤ i ∧ Hid (∀ q, q < j → ∀ x, ps[q]? = some x → x.1 ≠ p1) ∧ wx.cell? ⟨w.heap.size, 3, none⟩ = some (.slice (some ad) np ac) ∧ wx.cell? ⟨w.heap.size, 4, none⟩ = some (.slice K nk kc) ∧ w.heap.size < wx.heap.size ∧ Below w.heap.size w wx) (fun s8 _ => i - (intOf s8).toNat)
          case atStart => exact ⟨0, rfl, Nat.zero_le _, Lib.hid (fun q h => absurd h (Nat.not_lt_zero _)), (by first | assumption | (simp [*]; done)), (by first | assumption | (simp [*]; done)), (by first | assumption | (simp; done) | exact zz hb1 (by assumption) | exact zz hb2 (by assumption) | exact zz hb2 (by simp) | exact zz hb1 (by simp) | (simp; omega)), by repeat (with_reducible (first | exact Below.refl _ _ | assumption | apply ba | apply bd | apply bdr | (refine bs ?_ (by first | assumption | (simp; done) | (simp; omega))) | (refine bt ?_ (by assumption))))⟩
          case round =>
            obtain ⟨j, rfl, hj, hne, hb3, hb4, hsz, hBW⟩ := hrel
            by_cases hjl : j < i
            · have g1 : decide ((j : Int) < (i : Int)) = true := by first | (simp; done) | (simp; omega)
              have hjn : j < np := by omega
              have g2 : decide ((j : Int) < (np : Int)) = true := by first | (simp; done) | (simp; omega)
              obtain ⟨x, hx⟩ : ∃ x, ps[j]? = some x := ⟨_, List.getElem?_eq_getElem (by rw [HNP.out]; exact hjn)⟩
              have HXJ := Lib.hid hx
              obtain ⟨x1, x2⟩ := x
              obtain ⟨ad', e', _, c0, c1⟩ := pair_at (HA.out.below HP.out hBW) hx hjn
              cases e'
              obtain ⟨ad', e', _, c2, c3⟩ := pair_at (HA.out.below HP.out hBW) HPI.out hlt
              cases e'
              clear hx
              by_cases heq : x1 = p1
              · have hr : res = false := by rw [← HS.out, pairs_twice HPI.out HXJ.out hjl heq]; rfl
                subst hr
                subst heq
                have ge := eq_yes x1
                go_wp2
                go_quiet (fail)
                go_wp2
                go_ret
                exact ⟨rfl, by first | exact bd hBW | (repeat (with_reducible (first | exact Below.refl _ _ | assumption | apply ba | apply bd | apply bdr | (refine bs ?_ (by first | assumption | (simp; done) | (simp; omega))) | (refine bt ?_ (by assumption)))))⟩
              · have ge := eq_no heq
                have HEQ := Lib.hid heq
                clear heq
                go_wp2
                go_quiet (fail)
                go_wp2
                go_roundw
                case rel => exact ⟨j + 1, by go_num, by omega, Lib.hid (fun q hq x hx => by
                  rcases Nat.lt_succ_iff_lt_or_eq.1 hq with h | h
                  · exact hne.out q h x hx
                  · subst h
                    rw [HXJ.out] at hx
                    cases hx
                    exact HEQ.out), (by first | assumption | (simp [*]; done)), (by first | assumption | (simp [*]; done)), (by first | assumption | (simp; done) | (simp; omega)), by first | exact bd hBW | (repeat (with_reducible (first | exact Below.refl _ _ | assumption | apply ba | apply bd | apply bdr | (refine bs ?_ (by first | assumption | (simp; done) | (simp; omega))) | (refine bt ?_ (by assumption)))))⟩
                case measure => simp [intOf]; omega
            · obtain rfl : j = i := by omega
              have g1 : decide (((j : Nat) : Int) < ((j : Nat) : Int)) = false := by simp
              have hst := pairs_step HPI.out hall.out H1.out H2.out hne.out
              have HST := Lib.hid hst
              clear hst
              go_wp2
              go_roundw
              case rel => exact ⟨j + 1, by go_num, by omega, HST, (by first | assumption | (simp [*]; done)), (by first | assumption | (simp [*]; done)), (by first | assumption | (simp; done) | exact zz hb1 (by assumption) | exact zz hb2 (by assumption) | exact zz hb2 (by simp) | exact zz hb1 (by simp) | (simp; omega)), by repeat (with_reducible (first | exact Below.refl _ _ | assumption | apply ba | apply bd | apply bdr | (refine bs ?_ (by first | assumption | (simp; done) | (simp; omega))) | (refine bt ?_ (by assumption))))⟩
              case measure => simp [intOf]; omega
    · obtain rfl : i = np := by omega
      have g0 : decide (((i : Nat) : Int) < ((i : Nat) : Int)) = false := by simp
      have hpr : pairsR ps = true := by
        have := hall.out
        rwa [List.take_of_length_le (by rw [HNP.out]; exact Nat.le_refl _)] at this
      have HS2 : Hid (rightL (plL ks) (d + 1) 0 = res) := Lib.hid (by rw [← HS.out, hpr]; rfl)
      clear hpr
      go_wp2
      go_loopw [9] (fun s9 wx => ∃ q : Nat, s9 = .int .i64 q ∧ q ≤ nk ∧ Hid (rightL ((plL ks).drop q) (d + 1) (lastK ks q) = res) ∧ wx.cell? ⟨w.heap.size, 3, none⟩ = some (.slice A i ac) ∧ wx.cell? ⟨w.heap.size, 4, none⟩ = some (.slice K nk kc) ∧ w.heap.size < wx.heap.size ∧ Below w.heap.size w wx) (fun s9 _ => nk - (intOf s9).toNat)
      case atStart => exact ⟨0, rfl, Nat.zero_le _, Lib.hid (by rw [← HS2.out]; rfl), (by first | assumption | (simp [*]; done)), (by first | assumption | (simp [*]; done)), (by first | assumption | (simp; done) | exact zz hb1 (by assumption) | exact zz hb2 (by assumption) | exact zz hb2 (by simp) | exact zz hb1 (by simp) | (simp; omega)), by repeat (with_reducible (first | exact Below.refl _ _ | assumption | apply ba | apply bd | apply bdr | (refine bs ?_ (by first | assumption | (simp; done) | (simp; omega))) | (refine bt ?_ (by assumption))))⟩
      case round =>
        obtain ⟨q, rfl, hq, hrel, hb3, hb4, hsz, hBW⟩ := hrel
        by_cases hql : q < nk
        · have g1 : decide ((q : Int) < (nk : Int)) = true := by first | (simp; done) | (simp; omega)
          have hqk : q < ks.length := by rw [HNK.out]; exact hql
          obtain ⟨t, ht⟩ : ∃ t, ks[q]? = some t := ⟨_, List.getElem?_eq_getElem hqk⟩
          have htm := List.mem_of_getElem? ht
          have hst : rightL ((plL ks).drop q) (d + 1) (lastK ks q) = (kidR t.pl.k (lastK ks q) && t.pl.right (d + 1) && rightL ((plL ks).drop (q + 1)) (d + 1) (lastK ks (q + 1))) := by
            rw [drop_at (plL_at ht), rightL]
            congr 1
            show _ = rightL _ _ (((ks[q]?).map fun t => t.pl.k).getD 0)
            rw [ht]; rfl
          have hc := IH.out t htm P
          have hin' := (inL_iff.1 HL.out t htm).below HP.out hBW
          have hbk := HB.out t htm
          have HTQ := Lib.hid ht
          obtain ⟨k', n', v', A', ac', ps', K', kc', ks'⟩ := t
          have hka := HK.out.below HP.out hBW
          obtain ⟨ad2, rfl, hPad2, d0, d1, d2, d3, d4⟩ := kid_at hka ht hql
          have hb0 : (ad2.add (q * 5)).block < wr.heap.size := by rw [block_of_add]; exact Nat.lt_of_lt_of_le (HP.out _ hPad2) hBW.size
          have HST := Lib.hid (hst.symm.trans hrel.out)
          have hkk : (Tr.mk k' n' v' A' ac' ps' K' kc' ks').pl.k = k' := rfl
          rw [hkk] at hst HST
          have HC := Lib.hid (hc wr (d + 1) hin' (fun b hb => Nat.lt_of_lt_of_le (HP.out b hb) hBW.size) hbk (by omega))
          obtain ⟨r, hr⟩ : ∃ r, (Tr.mk k' n' v' A' ac' ps' K' kc' ks').pl.right (d + 1) = r := ⟨_, rfl⟩
          rw [hr] at HC HST
          obtain ⟨np', hnp'⟩ : ∃ q, ps'.length = q := ⟨_, rfl⟩
          obtain ⟨nk', hnk'⟩ : ∃ q, ks'.length = q := ⟨_, rfl⟩
          simp only [Tr.v] at HC
          rw [hnp', hnk'] at HC
          rw [hnp'] at d3
          rw [hnk'] at d4
          have HD : Hid (((d + 1 : Nat) : Int) = (d : Int) + 1) := Lib.hid (by push_cast; rfl)
          rw [HD.out] at HC
          clear hst hc hin' hka ht htm hqk hr hkk hnp' hnk' hbk hrel
          by_cases hk : k' = 2 ∨ k' = 4 ∨ k' = 5
          · rcases hk with rfl | rfl | rfl
            · cases r with
              | false =>
                have hr : res = false := by rw [← HST.out, Bool.and_false]; rfl
                subst hr
                go_wp2_with (go_at_call 15; go_must (refine HC.out.mono ?_); rintro e w1 ⟨rfl, hb1⟩; have hc1 := fun o => (bcell hb1).1 w.heap.size o hsz; have z1 := zz hb1 hsz)
                go_ret
                exact ⟨rfl, by repeat (with_reducible (first | exact Below.refl _ _ | assumption | apply ba | apply bd | apply bdr | (refine bs ?_ (by first | assumption | (simp; done) | (simp; omega))) | (refine bt ?_ (by assumption))))⟩
              | true =>
                have HN2 : Hid (rightL ((plL ks).drop (q + 1)) (d + 1) (lastK ks (q + 1)) = res) := Lib.hid (by rw [← HST.out]; simp [kidR])
                rcases Nat.eq_zero_or_pos q with h0 | h0
                · have gq : decide ((q : Int) > 0) = false := by first | (simp; done) | (simp; omega)
                  have gq2 : decide (0 < (q : Int)) = false := by first | (simp; done) | (simp; omega)
                  have gq3 : decide (0 < q) = false := by simp; omega
                  clear h0
                  go_wp2_with (go_at_call 15; go_must (refine HC.out.mono ?_); rintro e w1 ⟨rfl, hb1⟩; have hc1 := fun o => (bcell hb1).1 w.heap.size o hsz; have z1 := zz hb1 hsz)
                  go_roundw
                  case rel => exact ⟨q + 1, by go_num, by omega, HN2, (by first | assumption | (simp [*]; done)), (by first | assumption | (simp [*]; done)), (by first | assumption | (simp; done) | exact zz hb1 (by assumption) | exact zz hb2 (by assumption) | exact zz hb2 (by simp) | exact zz hb1 (by simp) | (simp; omega)), by repeat (with_reducible (first | exact Below.refl _ _ | assumption | apply ba | apply bd | apply bdr | (refine bs ?_ (by first | assumption | (simp; done) | (simp; omega))) | (refine bt ?_ (by assumption))))⟩
                  case measure => simp [intOf]; omega
                · have gq : decide ((q : Int) > 0) = true := by first | (simp; done) | (simp; omega)
                  have gq2 : decide (0 < (q : Int)) = true := by first | (simp; done) | (simp; omega)
                  have gq3 : decide (0 < q) = true := by simpa using h0
                  go_wp2_with (go_at_call 15; go_must (refine HC.out.mono ?_); rintro e w1 ⟨rfl, hb1⟩; have hc1 := fun o => (bcell hb1).1 w.heap.size o hsz; have z1 := zz hb1 hsz)
                  go_roundw
                  case rel => exact ⟨q + 1, by go_num, by omega, HN2, (by first | assumption | (simp [*]; done)), (by first | assumption | (simp [*]; done)), (by first | assumption | (simp; done) | exact zz hb1 (by assumption) | exact zz hb2 (by assumption) | exact zz hb2 (by simp) | exact zz hb1 (by simp) | (simp; omega)), by repeat (with_reducible (first | exact Below.refl _ _ | assumption | apply ba | apply bd | apply bdr | (refine bs ?_ (by first | assumption | (simp; done) | (simp; omega))) | (refine bt ?_ (by assumption))))⟩
                  case measure => simp [intOf]; omega
            · cases r with
              | false =>
                have hr : res = false := by rw [← HST.out, Bool.and_false]; rfl
                subst hr
                go_wp2_with (go_at_call 15; go_must (refine HC.out.mono ?_); rintro e w1 ⟨rfl, hb1⟩; have hc1 := fun o => (bcell hb1).1 w.heap.size o hsz; have z1 := zz hb1 hsz)
                go_ret
                exact ⟨rfl, by repeat (with_reducible (first | exact Below.refl _ _ | assumption | apply ba | apply bd | apply bdr | (refine bs ?_ (by first | assumption | (simp; done) | (simp; omega))) | (refine bt ?_ (by assumption))))⟩
              | true =>
                rcases Nat.eq_zero_or_pos q with h0 | h0
                · have hl0 : lastK ks q = 0 := by rw [h0]; rfl
                  have HN2 : Hid (rightL ((plL ks).drop (q + 1)) (d + 1) (lastK ks (q + 1)) = res) := Lib.hid (by rw [← HST.out, hl0]; simp [kidR])
                  have gq : decide ((q : Int) > 0) = false := by first | (simp; done) | (simp; omega)
                  have gq2 : decide (0 < (q : Int)) = false := by first | (simp; done) | (simp; omega)
                  have gq3 : decide (0 < q) = false := by simp; omega
                  clear h0
                  clear hl0
                  go_wp2_with (go_at_call 15; go_must (refine HC.out.mono ?_); rintro e w1 ⟨rfl, hb1⟩; have hc1 := fun o => (bcell hb1).1 w.heap.size o hsz; have z1 := zz hb1 hsz)
                  go_roundw
                  case rel => exact ⟨q + 1, by go_num, by omega, HN2, (by first | assumption | (simp [*]; done)), (by first | assumption | (simp [*]; done)), (by first | assumption | (simp; done) | exact zz hb1 (by assumption) | exact zz hb2 (by assumption) | exact zz hb2 (by simp) | exact zz hb1 (by simp) | (simp; omega)), by repeat (with_reducible (first | exact Below.refl _ _ | assumption | apply ba | apply bd | apply bdr | (refine bs ?_ (by first | assumption | (simp; done) | (simp; omega))) | (refine bt ?_ (by assumption))))⟩
                  case measure => simp [intOf]; omega
                · obtain ⟨j, rfl⟩ : ∃ j, q = j + 1 := ⟨q - 1, by omega⟩
                  have gq : decide (((j + 1 : Nat) : Int) > 0) = true := by first | (simp; done) | (simp; omega)
                  have gq2 : decide (0 < ((j + 1 : Nat) : Int)) = true := by first | (simp; done) | (simp; omega)
                  have gj : decide ((j : Int) < (nk : Int)) = true := by first | (simp; done) | (simp; omega)
                  obtain ⟨x, hx⟩ : ∃ x, ks[j]? = some x := ⟨_, List.getElem?_eq_getElem (by rw [HNK.out]; omega)⟩
                  have hlk : lastK ks (j + 1) = x.pl.k := by show ((ks[j]?).map fun t => t.pl.k).getD 0 = _; rw [hx]; rfl
                  obtain ⟨kx, nx, vx, Ax, acx, psx, Kx, kcx, ksx⟩ := x
                  obtain ⟨ad3, e3, hPad3, f0, _⟩ := kid_at (HK.out.below HP.out hBW) hx (by omega : j < nk)
                  cases e3
                  have hlk2 : lastK ks (j + 1) = kx := hlk
                  have hb9 : (ad2.add (j * 5)).block < wr.heap.size := by rw [block_of_add]; exact Nat.lt_of_lt_of_le (HP.out _ hPad3) hBW.size
                  by_cases h4 : kx = 4
                  · have hr : res = false := by
                      rw [← HST.out, hlk2, h4]
                      have : kidR 4 4 = false := by decide
                      rw [this]; rfl
                    subst hr
                    subst h4
                    clear hx hlk hlk2
                    go_wp2_with (go_at_call 15; go_must (refine HC.out.mono ?_); rintro e w1 ⟨rfl, hb1⟩; have hc1 := fun o => (bcell hb1).1 w.heap.size o hsz; have z1 := zz hb1 hsz; have he1 := hb1.cell (p := ad2.add (j * 5)) hb9)
                    go_ret
                    exact ⟨rfl, by repeat (with_reducible (first | exact Below.refl _ _ | assumption | apply ba | apply bd | apply bdr | (refine bs ?_ (by first | assumption | (simp; done) | (simp; omega))) | (refine bt ?_ (by assumption))))⟩
                  · have n4 : (kx == 4) = false := by simpa using h4
                    have HN2 : Hid (rightL ((plL ks).drop (j + 1 + 1)) (d + 1) (lastK ks (j + 1 + 1)) = res) := Lib.hid (by
                      rw [← HST.out, hlk2]
                      have : kidR 4 kx = true := by unfold kidR; rw [decide_eq_true_iff]; exact ⟨.inr (.inl rfl), fun h => h4 h.2⟩
                      rw [this]; rfl)
                    clear hx hlk hlk2 h4
                    go_wp2_with (go_at_call 15; go_must (refine HC.out.mono ?_); rintro e w1 ⟨rfl, hb1⟩; have hc1 := fun o => (bcell hb1).1 w.heap.size o hsz; have z1 := zz hb1 hsz; have he1 := hb1.cell (p := ad2.add (j * 5)) hb9)
                    go_roundw
                    case rel => exact ⟨j + 1 + 1, by go_num, by omega, HN2, (by first | assumption | (simp [*]; done)), (by first | assumption | (simp [*]; done)), (by first | assumption | (simp; done) | exact zz hb1 (by assumption) | exact zz hb2 (by assumption) | exact zz hb2 (by simp) | exact zz hb1 (by simp) | (simp; omega)), by repeat (with_reducible (first | exact Below.refl _ _ | assumption | apply ba | apply bd | apply bdr | (refine bs ?_ (by first | assumption | (simp; done) | (simp; omega))) | (refine bt ?_ (by assumption))))⟩
                    case measure => simp [intOf]; omega
            · cases r with
              | false =>
                have hr : res = false := by rw [← HST.out, Bool.and_false]; rfl
                subst hr
                go_wp2_with (go_at_call 15; go_must (refine HC.out.mono ?_); rintro e w1 ⟨rfl, hb1⟩; have hc1 := fun o => (bcell hb1).1 w.heap.size o hsz; have z1 := zz hb1 hsz)
                go_ret
                exact ⟨rfl, by repeat (with_reducible (first | exact Below.refl _ _ | assumption | apply ba | apply bd | apply bdr | (refine bs ?_ (by first | assumption | (simp; done) | (simp; omega))) | (refine bt ?_ (by assumption))))⟩
              | true =>
                have HN2 : Hid (rightL ((plL ks).drop (q + 1)) (d + 1) (lastK ks (q + 1)) = res) := Lib.hid (by rw [← HST.out]; simp [kidR])
                rcases Nat.eq_zero_or_pos q with h0 | h0
                · have gq : decide ((q : Int) > 0) = false := by first | (simp; done) | (simp; omega)
                  have gq2 : decide (0 < (q : Int)) = false := by first | (simp; done) | (simp; omega)
                  have gq3 : decide (0 < q) = false := by simp; omega
                  clear h0
                  go_wp2_with (go_at_call 15; go_must (refine HC.out.mono ?_); rintro e w1 ⟨rfl, hb1⟩; have hc1 := fun o => (bcell hb1).1 w.heap.size o hsz; have z1 := zz hb1 hsz)
                  go_roundw
                  case rel => exact ⟨q + 1, by go_num, by omega, HN2, (by first | assumption | (simp [*]; done)), (by first | assumption | (simp [*]; done)), (by first | assumption | (simp; done) | exact zz hb1 (by assumption) | exact zz hb2 (by assumption) | exact zz hb2 (by simp) | exact zz hb1 (by simp) | (simp; omega)), by repeat (with_reducible (first | exact Below.refl _ _ | assumption | apply ba | apply bd | apply bdr | (refine bs ?_ (by first | assumption | (simp; done) | (simp; omega))) | (refine bt ?_ (by assumption))))⟩
                  case measure => simp [intOf]; omega
                · have gq : decide ((q : Int) > 0) = true := by first | (simp; done) | (simp; omega)
                  have gq2 : decide (0 < (q : Int)) = true := by first | (simp; done) | (simp; omega)
                  have gq3 : decide (0 < q) = true := by simpa using h0
                  go_wp2_with (go_at_call 15; go_must (refine HC.out.mono ?_); rintro e w1 ⟨rfl, hb1⟩; have hc1 := fun o => (bcell hb1).1 w.heap.size o hsz; have z1 := zz hb1 hsz)
                  go_roundw
                  case rel => exact ⟨q + 1, by go_num, by omega, HN2, (by first | assumption | (simp [*]; done)), (by first | assumption | (simp [*]; done)), (by first | assumption | (simp; done) | exact zz hb1 (by assumption) | exact zz hb2 (by assumption) | exact zz hb2 (by simp) | exact zz hb1 (by simp) | (simp; omega)), by repeat (with_reducible (first | exact Below.refl _ _ | assumption | apply ba | apply bd | apply bdr | (refine bs ?_ (by first | assumption | (simp; done) | (simp; omega))) | (refine bt ?_ (by assumption))))⟩
                  case measure => simp [intOf]; omega
          · have n2 : (k' == 2) = false := by simp; omega
            have n4 : (k' == 4) = false := by simp; omega
            have n5 : (k' == 5) = false := by simp; omega
            have m2 : (k' != 2) = true := by simp; omega
            have m4 : (k' != 4) = true := by simp; omega
            have m5 : (k' != 5) = true := by simp; omega
            have hr : res = false := by
              rw [← HST.out]
              have : kidR k' (lastK ks q) = false := by unfold kidR; rw [decide_eq_false_iff_not]; exact fun h => hk h.1
              rw [this]; rfl
            subst hr
            clear hk
            go_wp2
            go_ret
            exact ⟨rfl, by repeat (with_reducible (first | exact Below.refl _ _ | assumption | apply ba | apply bd | apply bdr | (refine bs ?_ (by first | assumption | (simp; done) | (simp; omega))) | (refine bt ?_ (by assumption))))⟩
        · obtain rfl : q = nk := by omega
          have g1 : decide (((q : Nat) : Int) < ((q : Nat) : Int)) = false := by simp
          have hr : res = true := by
            rw [← hrel.out, List.drop_eq_nil_of_le (by rw [plL_len, HNK.out]; exact Nat.le_refl _), rightL]
          subst hr
          go_wp2
          go_ret
          exact ⟨rfl, by repeat (with_reducible (first | exact Below.refl _ _ | assumption | apply ba | apply bd | apply bdr | (refine bs ?_ (by first | assumption | (simp; done) | (simp; omega))) | (refine bt ?_ (by assumption))))⟩
theorem rfp3 (n v : List UInt8) (A K : Option Addr) (ac kc d : Nat) (w : World) (hd : d ≤ 64) (hn : n ≠ []) (HN : Hid (Gives 49 #[.string (ba' n)] (.bool true))) (HV : Hid (Gives 50 #[.string (ba' v)] (.bool true))) : Calls Tryd.prog 15 #[.agg #[.int .i64 3, .string (ba' n), .string (ba' v), .slice A 0 ac, .slice K 0 kc], .int .i64 (d : Int)] w fun e w' => e = .returned (.bool true) ∧ Below w.heap.size w w' := by
  have gd : decide ((d : Int) > 64) = false := by simp; omega
  have gd2 : decide (64 < (d : Int)) = false := by simp; omega
  have gn := isN hn
  clear hn
  go_enter Tryd.func15, Tryd.ntmps15
  go_wp2_with (first
    | (go_at_call 49; go_must (refine (HN.out _).mono ?_); rintro e w1 ⟨rfl, hb1⟩; have hc1 := fun o => (bcell hb1).1 w.heap.size o (by first | (simp; done) | assumption | (simp; omega)); have z1 : w.heap.size < w1.heap.size := zz hb1 (by simp))
    | (go_at_call 50; go_must (refine (HV.out _).mono ?_); rintro e w2 ⟨rfl, hb2⟩; have hc2 := fun o => (bcell hb2).1 w.heap.size o (by first | (simp; done) | assumption | (simp; omega))))
  go_loopw [7] (fun s7 wx => s7 = .int .i64 0 ∧ wx.cell? ⟨w.heap.size, 3, none⟩ = some (.slice A 0 ac) ∧ wx.cell? ⟨w.heap.size, 4, none⟩ = some (.slice K 0 kc) ∧ w.heap.size < wx.heap.size ∧ Below w.heap.size w wx) (fun _ _ => 0)
  case atStart => exact ⟨rfl, (by first | assumption | (simp [*]; done)), (by first | assumption | (simp [*]; done)), (by first | assumption | (simp; done) | exact zz hb1 (by assumption) | exact zz hb2 (by assumption) | exact zz hb2 (by simp) | exact zz hb1 (by simp) | (simp; omega)), by repeat (with_reducible (first | exact Below.refl _ _ | assumption | apply ba | apply bd | apply bdr | (refine bs ?_ (by first | assumption | (simp; done) | (simp; omega))) | (refine bt ?_ (by assumption))))⟩
  case round =>
    obtain ⟨rfl, hb3, hb4, hsz, hBW⟩ := hrel
    go_wp2
    go_loopw [9] (fun s9 wx => s9 = .int .i64 0 ∧ wx.cell? ⟨w.heap.size, 3, none⟩ = some (.slice A 0 ac) ∧ wx.cell? ⟨w.heap.size, 4, none⟩ = some (.slice K 0 kc) ∧ w.heap.size < wx.heap.size ∧ Below w.heap.size w wx) (fun _ _ => 0)
    case atStart => exact ⟨rfl, (by first | assumption | (simp [*]; done)), (by first | assumption | (simp [*]; done)), (by first | assumption | (simp; done) | exact zz hb1 (by assumption) | exact zz hb2 (by assumption) | exact zz hb2 (by simp) | exact zz hb1 (by simp) | (simp; omega)), by repeat (with_reducible (first | exact Below.refl _ _ | assumption | apply ba | apply bd | apply bdr | (refine bs ?_ (by first | assumption | (simp; done) | (simp; omega))) | (refine bt ?_ (by assumption))))⟩
    case round =>
      obtain ⟨rfl, hb3, hb4, hsz, hBW⟩ := hrel
      go_wp2
      go_ret
      exact ⟨rfl, by repeat (with_reducible (first | exact Below.refl _ _ | assumption | apply ba | apply bd | apply bdr | (refine bs ?_ (by first | assumption | (simp; done) | (simp; omega))) | (refine bt ?_ (by assumption))))⟩
theorem rfp4 (n v : List UInt8) (A K : Option Addr) (ac kc d : Nat) (w : World) (hd : d ≤ 64) (hn : n = []) (hv : v ≠ []) (HV : Hid (Gives 50 #[.string (ba' v)] (.bool true))) : Calls Tryd.prog 15 #[.agg #[.int .i64 4, .string (ba' n), .string (ba' v), .slice A 0 ac, .slice K 0 kc], .int .i64 (d : Int)] w fun e w' => e = .returned (.bool true) ∧ Below w.heap.size w w' := by
  have gd : decide ((d : Int) > 64) = false := by simp; omega
  have gd2 : decide (64 < (d : Int)) = false := by simp; omega
  have gn := isE hn
  clear hn
  have gv := isN hv
  clear hv
  go_enter Tryd.func15, Tryd.ntmps15
  go_wp2_with (first
    | (go_at_call 50; go_must (refine (HV.out _).mono ?_); rintro e w2 ⟨rfl, hb2⟩; have hc2 := fun o => (bcell hb2).1 w.heap.size o (by first | (simp; done) | assumption | (simp; omega))))
  go_loopw [7] (fun s7 wx => s7 = .int .i64 0 ∧ wx.cell? ⟨w.heap.size, 3, none⟩ = some (.slice A 0 ac) ∧ wx.cell? ⟨w.heap.size, 4, none⟩ = some (.slice K 0 kc) ∧ w.heap.size < wx.heap.size ∧ Below w.heap.size w wx) (fun _ _ => 0)
  case atStart => exact ⟨rfl, (by first | assumption | (simp [*]; done)), (by first | assumption | (simp [*]; done)), (by first | assumption | (simp; done) | exact zz hb1 (by assumption) | exact zz hb2 (by assumption) | exact zz hb2 (by simp) | exact zz hb1 (by simp) | (simp; omega)), by repeat (with_reducible (first | exact Below.refl _ _ | assumption | apply ba | apply bd | apply bdr | (refine bs ?_ (by first | assumption | (simp; done) | (simp; omega))) | (refine bt ?_ (by assumption))))⟩
  case round =>
    obtain ⟨rfl, hb3, hb4, hsz, hBW⟩ := hrel
    go_wp2
    go_loopw [9] (fun s9 wx => s9 = .int .i64 0 ∧ wx.cell? ⟨w.heap.size, 3, none⟩ = some (.slice A 0 ac) ∧ wx.cell? ⟨w.heap.size, 4, none⟩ = some (.slice K 0 kc) ∧ w.heap.size < wx.heap.size ∧ Below w.heap.size w wx) (fun _ _ => 0)
    case atStart => exact ⟨rfl, (by first | assumption | (simp [*]; done)), (by first | assumption | (simp [*]; done)), (by first | assumption | (simp; done) | exact zz hb1 (by assumption) | exact zz hb2 (by assumption) | exact zz hb2 (by simp) | exact zz hb1 (by simp) | (simp; omega)), by repeat (with_reducible (first | exact Below.refl _ _ | assumption | apply ba | apply bd | apply bdr | (refine bs ?_ (by first | assumption | (simp; done) | (simp; omega))) | (refine bt ?_ (by assumption))))⟩
    case round =>
      obtain ⟨rfl, hb3, hb4, hsz, hBW⟩ := hrel
      go_wp2
      go_ret
      exact ⟨rfl, by repeat (with_reducible (first | exact Below.refl _ _ | assumption | apply ba | apply bd | apply bdr | (refine bs ?_ (by first | assumption | (simp; done) | (simp; omega))) | (refine bt ?_ (by assumption))))⟩
theorem rfp5 (n v : List UInt8) (A K : Option Addr) (ac kc d : Nat) (w : World) (hd : d ≤ 64) (hn : n = []) (HV : Hid (Gives 50 #[.string (ba' v)] (.bool true))) : Calls Tryd.prog 15 #[.agg #[.int .i64 5, .string (ba' n), .string (ba' v), .slice A 0 ac, .slice K 0 kc], .int .i64 (d : Int)] w fun e w' => e = .returned (.bool true) ∧ Below w.heap.size w w' := by
  have gd : decide ((d : Int) > 64) = false := by simp; omega
  have gd2 : decide (64 < (d : Int)) = false := by simp; omega
  have gn := isE hn
  clear hn
  go_enter Tryd.func15, Tryd.ntmps15
  go_wp2_with (first
    | (go_at_call 50; go_must (refine (HV.out _).mono ?_); rintro e w2 ⟨rfl, hb2⟩; have hc2 := fun o => (bcell hb2).1 w.heap.size o (by first | (simp; done) | assumption | (simp; omega))))
  go_loopw [7] (fun s7 wx => s7 = .int .i64 0 ∧ wx.cell? ⟨w.heap.size, 3, none⟩ = some (.slice A 0 ac) ∧ wx.cell? ⟨w.heap.size, 4, none⟩ = some (.slice K 0 kc) ∧ w.heap.size < wx.heap.size ∧ Below w.heap.size w wx) (fun _ _ => 0)
  case atStart => exact ⟨rfl, (by first | assumption | (simp [*]; done)), (by first | assumption | (simp [*]; done)), (by first | assumption | (simp; done) | exact zz hb1 (by assumption) | exact zz hb2 (by assumption) | exact zz hb2 (by simp) | exact zz hb1 (by simp) | (simp; omega)), by repeat (with_reducible (first | exact Below.refl _ _ | assumption | apply ba | apply bd | apply bdr | (refine bs ?_ (by first | assumption | (simp; done) | (simp; omega))) | (refine bt ?_ (by assumption))))⟩
  case round =>
    obtain ⟨rfl, hb3, hb4, hsz, hBW⟩ := hrel
    go_wp2
    go_loopw [9] (fun s9 wx => s9 = .int .i64 0 ∧ wx.cell? ⟨w.heap.size, 3, none⟩ = some (.slice A 0 ac) ∧ wx.cell? ⟨w.heap.size, 4, none⟩ = some (.slice K 0 kc) ∧ w.heap.size < wx.heap.size ∧ Below w.heap.size w wx) (fun _ _ => 0)
    case atStart => exact ⟨rfl, (by first | assumption | (simp [*]; done)), (by first | assumption | (simp [*]; done)), (by first | assumption | (simp; done) | exact zz hb1 (by assumption) | exact zz hb2 (by assumption) | exact zz hb2 (by simp) | exact zz hb1 (by simp) | (simp; omega)), by repeat (with_reducible (first | exact Below.refl _ _ | assumption | apply ba | apply bd | apply bdr | (refine bs ?_ (by first | assumption | (simp; done) | (simp; omega))) | (refine bt ?_ (by assumption))))⟩
    case round =>
      obtain ⟨rfl, hb3, hb4, hsz, hBW⟩ := hrel
      go_wp2
      go_ret
      exact ⟨rfl, by repeat (with_reducible (first | exact Below.refl _ _ | assumption | apply ba | apply bd | apply bdr | (refine bs ?_ (by first | assumption | (simp; done) | (simp; omega))) | (refine bt ?_ (by assumption))))⟩
end Go.Proofs.YtcmlfkoeajpliaaDoor
namespace Go.Proofs.YtcmlfkoeajpliaaDoor
open Go.RowKit Go.Lib
set_option maxRecDepth 100000
set_option maxHeartbeats 4000000
theorem plL_nil {ks : List Tr} (h : ks = []) : (plL ks).isEmpty = true := by subst h; rfl
theorem plL_cons {ks : List Tr} (h : ks ≠ []) : (plL ks).isEmpty = false := by
  cases ks with
  | nil => exact absurd rfl h
  | cons a l => rfl
theorem len_pos {α : Type} {l : List α} (h : l ≠ []) : 0 < l.length := List.length_pos_iff.2 h
theorem vnil {v : List UInt8} (h : v = []) : validX v = true := by subst h; rfl
theorem refRight_any : ∀ t : Tr, RefR t := by
  intro t
  induction t using Tr.ind with
  | h k n v A ac ps K kc ks ih =>
    intro P w d hin hP hb hd
    have hF := bulk_fields k n v A ac ps K kc ks
    have hB : ∀ t ∈ ks, t.pl.bulk ≤ 1048576 := fun t ht => by have := bulk_kid (k := k) (n := n) (v := v) (A := A) (ac := ac) (ps := ps) (K := K) (kc := kc) ht; omega
    have hPL : ∀ p ∈ ps, p.1.length ≤ 1048576 ∧ p.2.length ≤ 1048576 := fun p hp => by
      have h1 := bulkP_mem ps p hp
      have h2 : bulkP ps < (Tr.mk k n v A ac ps K kc ks).pl.bulk := by rw [Tr.pl, PT.bulk]; omega
      omega
    rw [Tr.In] at hin
    obtain ⟨hA, hK, hL⟩ := hin
    show Calls Tryd.prog 15 #[.agg #[.int .i64 k, .string (ba' n), .string (ba' v), .slice A ps.length ac, .slice K ks.length kc], .int .i64 (d : Int)] w _
    rw [Tr.pl, PT.right]
    by_cases h64 : d ≤ 64
    case neg =>
      have e : (decide (d ≤ 64) && headR k n v ps (plL ks).isEmpty && rightL (plL ks) (d + 1) 0) = false := by simp [h64]
      rw [e]
      exact rf_deep k n v A _ ac K _ kc d w (by omega)
    have h64' : decide (d ≤ 64) = true := by simpa using h64
    have NR := fun r h => nameR_g n (by omega) r h
    have VR := fun r h => validR_g v (by omega) r h
    have bad : ∀ {b : Bool}, headR k n v ps (plL ks).isEmpty = false → (decide (d ≤ 64) && headR k n v ps (plL ks).isEmpty && rightL (plL ks) (d + 1) 0) = false := fun h => by rw [h]; simp
    by_cases k1 : k = 1
    · subst k1
      by_cases hn : n = []
      case neg =>
        rw [bad (b := true) (by simp [headR, hn])]
        exact rf1_n n v A ps.length ks.length ac K kc d w h64 hn
      by_cases hv : v = []
      case neg =>
        rw [bad (b := true) (by simp [headR, hn, hv])]
        exact rf1_v n v A ps.length ks.length ac K kc d w h64 hn hv
      by_cases hp : ps = []
      case neg =>
        rw [bad (b := true) (by simp [headR, hn, hv, hp])]
        exact rf1_p n v A ps.length ks.length ac K kc d w h64 hn hv (VR true (vnil hv)) (len_pos hp)
      have hp0 : ps.length = 0 := by rw [hp]; rfl
      rw [hp0]
      have e : (decide (d ≤ 64) && headR 1 n v ps (plL ks).isEmpty && rightL (plL ks) (d + 1) 0) = rightL (plL ks) (d + 1) 0 := by simp [headR, h64', hn, hv, hp]
      rw [e]
      exact rfp1 n v A K ac kc d ks.length w P (Lib.hid hP) ks (Lib.hid rfl) (Lib.hid hK) (Lib.hid hL) (Lib.hid ih) (Lib.hid hB) (by omega) h64 hn hv (VR true (vnil hv))
    by_cases k2 : k = 2
    · subst k2
      by_cases hn : n = []
      case pos =>
        rw [bad (b := true) (by simp [headR, hn, nameX_nil])]
        exact rf2_n n v A ps.length ks.length ac K kc d w h64 hn
      cases hr : nameX n with
      | false =>
        rw [bad (b := true) (by simp [headR, hr])]
        exact rf2_m n v A ps.length ks.length ac K kc d w h64 hn (NR false hr)
      | true =>
      by_cases hv : v = []
      case neg =>
        rw [bad (b := true) (by simp [headR, hr, hv])]
        exact rf2_v n v A ps.length ks.length ac K kc d w h64 hn hv (NR true hr)
      have e : (decide (d ≤ 64) && headR 2 n v ps (plL ks).isEmpty && rightL (plL ks) (d + 1) 0) = (pairsR ps && rightL (plL ks) (d + 1) 0) := by simp [headR, h64', hr, hv]
      rw [e]
      exact rfp2 n v A K ac kc d ps.length ks.length w P (Lib.hid hP) ps (Lib.hid rfl) (Lib.hid hA) (Lib.hid hPL) (by omega) ks (Lib.hid rfl) (Lib.hid hK) (Lib.hid hL) (Lib.hid ih) (Lib.hid hB) (by omega) h64 hn hv (NR true hr) (VR true (vnil hv))
    by_cases k3 : k = 3
    · subst k3
      by_cases hn : n = []
      case pos =>
        rw [bad (b := true) (by simp [headR, hn, nameX_nil])]
        exact rf3_n n v A ps.length ks.length ac K kc d w h64 hn
      cases hr : nameX n with
      | false =>
        rw [bad (b := true) (by simp [headR, hr])]
        exact rf3_m n v A ps.length ks.length ac K kc d w h64 hn (NR false hr)
      | true =>
      cases hx : validX v with
      | false =>
        rw [bad (b := true) (by simp [headR, hr, hx])]
        exact rf3_v n v A ps.length ks.length ac K kc d w h64 hn (NR true hr) (VR false hx)
      | true =>
      by_cases hp : ps = []
      case neg =>
        rw [bad (b := true) (by simp [headR, hp])]
        exact rf3_p n v A ps.length ks.length ac K kc d w h64 hn (NR true hr) (VR true hx) (len_pos hp)
      have hp0 : ps.length = 0 := by rw [hp]; rfl
      rw [hp0]
      by_cases hk : ks = []
      case neg =>
        rw [bad (b := true) (by simp [headR, plL_cons hk])]
        exact rf3_k n v A ks.length ac K kc d w h64 hn (NR true hr) (VR true hx) (len_pos hk)
      have hk0 : ks.length = 0 := by rw [hk]; rfl
      rw [hk0]
      have e : (decide (d ≤ 64) && headR 3 n v ps (plL ks).isEmpty && rightL (plL ks) (d + 1) 0) = true := by simp [headR, h64', hp, hk, plL, rightL, hr, hx]
      rw [e]
      exact rfp3 n v A K ac kc d w h64 hn (NR true hr) (VR true hx)
    by_cases k4 : k = 4
    · subst k4
      by_cases hn : n = []
      case neg =>
        rw [bad (b := true) (by simp [headR, hn])]
        exact rf4_n n v A ps.length ks.length ac K kc d w h64 hn
      cases hx : validX v with
      | false =>
        rw [bad (b := true) (by simp [headR, hx])]
        exact rf4_m n v A ps.length ks.length ac K kc d w h64 hn (VR false hx)
      | true =>
      by_cases hv : v = []
      case pos =>
        rw [bad (b := true) (by simp [headR, hv])]
        exact rf4_v n v A ps.length ks.length ac K kc d w h64 hn hv (VR true hx)
      by_cases hp : ps = []
      case neg =>
        rw [bad (b := true) (by simp [headR, hp])]
        exact rf4_p n v A ps.length ks.length ac K kc d w h64 hn hv (VR true hx) (len_pos hp)
      have hp0 : ps.length = 0 := by rw [hp]; rfl
      rw [hp0]
      by_cases hk : ks = []
      case neg =>
        rw [bad (b := true) (by simp [headR, plL_cons hk])]
        exact rf4_k n v A ks.length ac K kc d w h64 hn hv (VR true hx) (len_pos hk)
      have hk0 : ks.length = 0 := by rw [hk]; rfl
      rw [hk0]
      have e : (decide (d ≤ 64) && headR 4 n v ps (plL ks).isEmpty && rightL (plL ks) (d + 1) 0) = true := by simp [headR, h64', hp, hk, plL, rightL, hn, hx, hv]
      rw [e]
      exact rfp4 n v A K ac kc d w h64 hn hv (VR true hx)
    by_cases k5 : k = 5
    · subst k5
      by_cases hn : n = []
      case neg =>
        rw [bad (b := true) (by simp [headR, hn])]
        exact rf5_n n v A ps.length ks.length ac K kc d w h64 hn
      cases hx : validX v with
      | false =>
        rw [bad (b := true) (by simp [headR, hx])]
        exact rf5_m n v A ps.length ks.length ac K kc d w h64 hn (VR false hx)
      | true =>
      by_cases hp : ps = []
      case neg =>
        rw [bad (b := true) (by simp [headR, hp])]
        exact rf5_p n v A ps.length ks.length ac K kc d w h64 hn (VR true hx) (len_pos hp)
      have hp0 : ps.length = 0 := by rw [hp]; rfl
      rw [hp0]
      by_cases hk : ks = []
      case neg =>
        rw [bad (b := true) (by simp [headR, plL_cons hk])]
        exact rf5_k n v A ks.length ac K kc d w h64 hn (VR true hx) (len_pos hk)
      have hk0 : ks.length = 0 := by rw [hk]; rfl
      rw [hk0]
      have e : (decide (d ≤ 64) && headR 5 n v ps (plL ks).isEmpty && rightL (plL ks) (d + 1) 0) = true := by simp [headR, h64', hp, hk, plL, rightL, hn, hx]
      rw [e]
      exact rfp5 n v A K ac kc d w h64 hn (VR true hx)
    have hh : headR k n v ps (plL ks).isEmpty = false := by simp [headR, k1, k2, k3, k4, k5]
    rw [bad (b := true) hh]
    by_cases hl : k < 1
    · exact rf_low k n v A _ ac K _ kc d w h64 hl
    · exact rf_high k n v A _ ac K _ kc d w h64 (by omega)
end Go.Proofs.YtcmlfkoeajpliaaDoor
