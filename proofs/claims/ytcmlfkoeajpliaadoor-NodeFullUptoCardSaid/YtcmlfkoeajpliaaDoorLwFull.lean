/- The statement NodeFull. No condition beyond what the theorems state. -/
import Derived.Test.YtcmlfkoeajpliaaDoorLwWake
import Derived.Test.YtcmlfkoeajpliaaDoorRefRight
import Derived.Test.YtcmlfkoeajpliaaDoorRefFew
import Derived.Test.YtcmlfkoeajpliaaDoorRefCopy
namespace Go.Proofs.YtcmlfkoeajpliaaDoor
open Go.RowKit Go.Lib
set_option maxRecDepth 100000
set_option maxHeartbeats 8000000
theorem full_few (k : Int) (n v : List UInt8) (A K : Option Addr) (np nk ac kc : Nat) (spare : Int) (w : World) (HW : Hid (∀ w1 : World, Below w.heap.size w w1 → Calls Tryd.prog 12 #[] w1 fun e w' => e = .returned (.bool true) ∧ Below w1.heap.size w1 w'))
    (HF : Hid (∀ (w1 : World) (g cap : Nat), Below w.heap.size w w1 → g < w1.heap.size → w1.cell? ⟨g, 0, none⟩ = some (.int .i64 k) → w1.cell? ⟨g, 1, none⟩ = some (.string (ba' n)) → w1.cell? ⟨g, 2, none⟩ = some (.string (ba' v)) → w1.cell? ⟨g, 3, none⟩ = some (.slice A np ac) → w1.cell? ⟨g, 4, none⟩ = some (.slice K nk kc) → Calls Tryd.prog 14 #[.int .i64 500, .slice (some ⟨g, 0, none⟩) 1 cap] w1 fun e w' => e = .returned (.bool false) ∧ Below w1.heap.size w1 w'))
    (rb : Bool) (_HR : Hid (∀ w1 : World, Below w.heap.size w w1 → Calls Tryd.prog 15 #[.agg #[.int .i64 k, .string (ba' n), .string (ba' v), .slice A np ac, .slice K nk kc], .int .i64 0] w1 fun e w' => e = .returned (.bool rb) ∧ Below w1.heap.size w1 w')) : Calls Tryd.prog 6 #[.agg #[.int .i64 k, .string (ba' n), .string (ba' v), .slice A np ac, .slice K nk kc], .int .i64 spare] w fun e w' => e = .returned (.bool true) ∧ Below w.heap.size w w' := by
  go_enter Tryd.func6, Tryd.ntmps6
  go_wp2_with fail
  refine (HW.out _ (by repeat (with_reducible (first | exact Below.refl _ _ | assumption | apply ba | apply bd | apply bdr | (refine bs ?_ (by first | assumption | (simp; done) | (simp; omega))) | (refine bt ?_ (by assumption)))))).mono ?_; rintro e w1 ⟨rfl, hb1⟩; have hc1 := fun o => (bcell hb1).1 w.heap.size o (by first | assumption | (simp; done) | (simp; omega)); have z1 := zz hb1 (by first | assumption | (simp; done) | (simp; omega) : w.heap.size < _); have B1 : Below w.heap.size w w1 := by repeat (with_reducible (first | exact Below.refl _ _ | assumption | apply ba | apply bd | apply bdr | (refine bs ?_ (by first | assumption | (simp; done) | (simp; omega))) | (refine bt ?_ (by assumption))))
  go_wp2_with fail
  refine (HF.out _ _ _ (by repeat (with_reducible (first | exact Below.refl _ _ | assumption | apply ba | apply bd | apply bdr | (refine bs ?_ (by first | assumption | (simp; done) | (simp; omega))) | (refine bt ?_ (by assumption))))) (by simp) (by first | (simp; done) | (simp [*]; done)) (by first | (simp; done) | (simp [*]; done)) (by first | (simp; done) | (simp [*]; done)) (by first | (simp; done) | (simp [*]; done)) (by first | (simp; done) | (simp [*]; done))).mono ?_; rintro e w2 ⟨rfl, hb2⟩; have hc2 := fun o => (bcell hb2).1 w.heap.size o (by first | assumption | (simp; done) | (simp; omega)); have z2 := zz hb2 (by first | assumption | (simp; done) | (simp; omega) : w.heap.size < _); have B2 : Below w.heap.size w w2 := by repeat (with_reducible (first | exact Below.refl _ _ | assumption | apply ba | apply bd | apply bdr | (refine bs ?_ (by first | assumption | (simp; done) | (simp; omega))) | (refine bt ?_ (by assumption))))
  go_wp2_with fail
  refine (HW.out _ (by repeat (with_reducible (first | exact Below.refl _ _ | assumption | apply ba | apply bd | apply bdr | (refine bs ?_ (by first | assumption | (simp; done) | (simp; omega))) | (refine bt ?_ (by assumption)))))).mono ?_; rintro e w9 ⟨rfl, hb9⟩
  go_wp2
  go_ret
  exact ⟨rfl, by repeat (with_reducible (first | exact Below.refl _ _ | assumption | apply ba | apply bd | apply bdr | (refine bs ?_ (by first | assumption | (simp; done) | (simp; omega))) | (refine bt ?_ (by assumption))))⟩
theorem full_right (k : Int) (n v : List UInt8) (A K : Option Addr) (np nk ac kc : Nat) (spare : Int) (w : World) (HW : Hid (∀ w1 : World, Below w.heap.size w w1 → Calls Tryd.prog 12 #[] w1 fun e w' => e = .returned (.bool true) ∧ Below w1.heap.size w1 w'))
    (HF : Hid (∀ (w1 : World) (g cap : Nat), Below w.heap.size w w1 → g < w1.heap.size → w1.cell? ⟨g, 0, none⟩ = some (.int .i64 k) → w1.cell? ⟨g, 1, none⟩ = some (.string (ba' n)) → w1.cell? ⟨g, 2, none⟩ = some (.string (ba' v)) → w1.cell? ⟨g, 3, none⟩ = some (.slice A np ac) → w1.cell? ⟨g, 4, none⟩ = some (.slice K nk kc) → Calls Tryd.prog 14 #[.int .i64 500, .slice (some ⟨g, 0, none⟩) 1 cap] w1 fun e w' => e = .returned (.bool true) ∧ Below w1.heap.size w1 w'))
    (HR : Hid (∀ w1 : World, Below w.heap.size w w1 → Calls Tryd.prog 15 #[.agg #[.int .i64 k, .string (ba' n), .string (ba' v), .slice A np ac, .slice K nk kc], .int .i64 0] w1 fun e w' => e = .returned (.bool false) ∧ Below w1.heap.size w1 w')) : Calls Tryd.prog 6 #[.agg #[.int .i64 k, .string (ba' n), .string (ba' v), .slice A np ac, .slice K nk kc], .int .i64 spare] w fun e w' => e = .returned (.bool true) ∧ Below w.heap.size w w' := by
  go_enter Tryd.func6, Tryd.ntmps6
  go_wp2_with fail
  refine (HW.out _ (by repeat (with_reducible (first | exact Below.refl _ _ | assumption | apply ba | apply bd | apply bdr | (refine bs ?_ (by first | assumption | (simp; done) | (simp; omega))) | (refine bt ?_ (by assumption)))))).mono ?_; rintro e w1 ⟨rfl, hb1⟩; have hc1 := fun o => (bcell hb1).1 w.heap.size o (by first | assumption | (simp; done) | (simp; omega)); have z1 := zz hb1 (by first | assumption | (simp; done) | (simp; omega) : w.heap.size < _); have B1 : Below w.heap.size w w1 := by repeat (with_reducible (first | exact Below.refl _ _ | assumption | apply ba | apply bd | apply bdr | (refine bs ?_ (by first | assumption | (simp; done) | (simp; omega))) | (refine bt ?_ (by assumption))))
  go_wp2_with fail
  refine (HF.out _ _ _ (by repeat (with_reducible (first | exact Below.refl _ _ | assumption | apply ba | apply bd | apply bdr | (refine bs ?_ (by first | assumption | (simp; done) | (simp; omega))) | (refine bt ?_ (by assumption))))) (by simp) (by first | (simp; done) | (simp [*]; done)) (by first | (simp; done) | (simp [*]; done)) (by first | (simp; done) | (simp [*]; done)) (by first | (simp; done) | (simp [*]; done)) (by first | (simp; done) | (simp [*]; done))).mono ?_; rintro e w2 ⟨rfl, hb2⟩; have hc2 := fun o => (bcell hb2).1 w.heap.size o (by first | assumption | (simp; done) | (simp; omega)); have z2 := zz hb2 (by first | assumption | (simp; done) | (simp; omega) : w.heap.size < _); have B2 : Below w.heap.size w w2 := by repeat (with_reducible (first | exact Below.refl _ _ | assumption | apply ba | apply bd | apply bdr | (refine bs ?_ (by first | assumption | (simp; done) | (simp; omega))) | (refine bt ?_ (by assumption))))
  go_wp2_with fail
  refine (HR.out _ (by repeat (with_reducible (first | exact Below.refl _ _ | assumption | apply ba | apply bd | apply bdr | (refine bs ?_ (by first | assumption | (simp; done) | (simp; omega))) | (refine bt ?_ (by assumption)))))).mono ?_; rintro e w3 ⟨rfl, hb3⟩; have hc3 := fun o => (bcell hb3).1 w.heap.size o (by first | assumption | (simp; done) | (simp; omega)); have z3 := zz hb3 (by first | assumption | (simp; done) | (simp; omega) : w.heap.size < _); have B3 : Below w.heap.size w w3 := by repeat (with_reducible (first | exact Below.refl _ _ | assumption | apply ba | apply bd | apply bdr | (refine bs ?_ (by first | assumption | (simp; done) | (simp; omega))) | (refine bt ?_ (by assumption))))
  go_wp2_with fail
  refine (HW.out _ (by repeat (with_reducible (first | exact Below.refl _ _ | assumption | apply ba | apply bd | apply bdr | (refine bs ?_ (by first | assumption | (simp; done) | (simp; omega))) | (refine bt ?_ (by assumption)))))).mono ?_; rintro e w9 ⟨rfl, hb9⟩
  go_wp2
  go_ret
  exact ⟨rfl, by repeat (with_reducible (first | exact Below.refl _ _ | assumption | apply ba | apply bd | apply bdr | (refine bs ?_ (by first | assumption | (simp; done) | (simp; omega))) | (refine bt ?_ (by assumption))))⟩
def oneT : Tr := .mk 5 [] [] none 0 [] none 0 []
def oneP : PT := .mk 5 [] [] [] []
theorem one_right : oneP.right 0 = true := by decide +kernel
theorem one_bulk : oneP.bulk ≤ 1048576 := by decide +kernel
theorem one_in (P : Nat → Prop) (w : World) : oneT.In P w := by
  unfold oneT
  rw [Tr.In]; exact ⟨nil_row _ _ _, nil_row _ _ _, by simp [InL]⟩
/-- So many comments. -/
def cL (i : Nat) : List En := (List.range i).map fun j => ⟨5, [], [], 0, j + 1⟩
theorem cL_len (i : Nat) : (cL i).length = i := by unfold cL; simp
theorem cL_succ (i : Nat) : cL i ++ oneP.lay (cL i).length 0 = cL (i + 1) := by
  rw [cL_len]
  unfold cL
  rw [List.range_succ, List.map_append]
  rfl
theorem one_build (sb lim : Nat) (A : Option Addr) (c i : Nat) (w : World) (hT : tabs w) (hS : StoreAt w sb lim A c (cL i)) (hl : lim ≤ 1048576) (hi : i + 1 ≤ lim) :
    Calls Tryd.prog 18 #[.pointer (some ⟨sb, 0, none⟩), .agg #[.int .i64 5, .string ⟨#[]⟩, .string ⟨#[]⟩, .slice none 0 0, .slice none 0 0]] w fun e w' => e = .returned (.tuple #[.int .i64 ((i + 1 : Nat) : Int), .int .i64 0]) ∧ ∃ A' c', StoreAt w' sb lim A' c' (cL (i + 1)) ∧ Beside sb A w A' w' := by
  have := build_ok oneT (fun _ => False) w sb lim A c (cL i) hT hS (one_in _ _) (fun b h => h.elim) one_bulk hl (by rw [cL_len]; omega) one_right (by rw [cL_len]; show i + 1 ≤ lim; exact hi)
  rw [show oneT.pl = oneP from rfl, cL_succ, cL_len] at this
  exact this
theorem one_full (sb lim : Nat) (A : Option Addr) (c : Nat) (L : List En) (w : World) (hT : tabs w) (hS : StoreAt w sb lim A c L) (hl : lim ≤ 1048576) (hL : L.length = lim) :
    Calls Tryd.prog 18 #[.pointer (some ⟨sb, 0, none⟩), .agg #[.int .i64 5, .string ⟨#[]⟩, .string ⟨#[]⟩, .slice none 0 0, .slice none 0 0]] w fun e w' => e = .returned (.tuple #[.int .i64 0, .int .i64 20]) ∧ Below w.heap.size w w' :=
  build_nodes oneT (fun _ => False) w sb lim A c L hT hS (one_in _ _) (fun b h => h.elim) one_bulk hl (by omega) one_right (by show lim < L.length + 1; omega)
theorem w64 (x : Int) (h1 : -9223372036854775808 ≤ x) (h2 : x ≤ 9223372036854775807) : wrap64 x = x := by unfold wrap64; omega
theorem spare_mod (s : Int) : ∃ q : Nat, q ≤ 2 ∧ (wrap64 (s.tmod 3 + 3)).tmod 3 = (q : Int) := by
  have h1 := Int.tmod_lt_of_pos s (by decide : (0 : Int) < 3)
  have h2 := Int.tmod_lt_of_pos (-s) (by decide : (0 : Int) < 3)
  rw [Int.neg_tmod] at h2
  rw [w64 _ (by omega) (by omega), Int.tmod_eq_emod_of_nonneg (by omega)]
  exact ⟨((s.tmod 3 + 3) % 3).toNat, by omega, by omega⟩
theorem new_l (lim : Nat) (h1 : 1 ≤ lim) (h2 : lim ≤ 1048576) (w1 : World) : Calls Tryd.prog 13 #[.int .i64 (lim : Int)] w1 fun e w' => e = .returned (.tuple #[.pointer (some ⟨w1.heap.size, 0, none⟩), .int .i64 0]) ∧ StoreAt w' w1.heap.size lim none 0 [] ∧ Below w1.heap.size w1 w' ∧ w'.heap.size = w1.heap.size + 1 :=
  (new_any lim w1 h1 h2).mono fun e w' ⟨h1, h2⟩ => by subst h2; exact ⟨h1, new_store lim w1, ba (Below.refl _ _), by simp⟩
theorem full_yes (k : Int) (n v : List UInt8) (A K : Option Addr) (np nk ac kc : Nat) (spare : Int) (w : World) (T : PT) (hT : tabs w) (hr : T.right 0 = true) (hbk : T.bulk ≤ 1048576) (sz : Nat) (hsz : T.size = sz) (hsz5 : sz ≤ 500) (HW : Hid (∀ w1 : World, Below w.heap.size w w1 → Calls Tryd.prog 12 #[] w1 fun e w' => e = .returned (.bool true) ∧ Below w1.heap.size w1 w'))
    (HF : Hid (∀ (w1 : World) (g cap : Nat), Below w.heap.size w w1 → g < w1.heap.size → w1.cell? ⟨g, 0, none⟩ = some (.int .i64 k) → w1.cell? ⟨g, 1, none⟩ = some (.string (ba' n)) → w1.cell? ⟨g, 2, none⟩ = some (.string (ba' v)) → w1.cell? ⟨g, 3, none⟩ = some (.slice A np ac) → w1.cell? ⟨g, 4, none⟩ = some (.slice K nk kc) → Calls Tryd.prog 14 #[.int .i64 500, .slice (some ⟨g, 0, none⟩) 1 cap] w1 fun e w' => e = .returned (.bool true) ∧ Below w1.heap.size w1 w'))
    (HR : Hid (∀ w1 : World, Below w.heap.size w w1 → Calls Tryd.prog 15 #[.agg #[.int .i64 k, .string (ba' n), .string (ba' v), .slice A np ac, .slice K nk kc], .int .i64 0] w1 fun e w' => e = .returned (.bool true) ∧ Below w1.heap.size w1 w')) (HSZ : Hid (∀ w1 : World, Below w.heap.size w w1 → Calls Tryd.prog 20 #[.agg #[.int .i64 k, .string (ba' n), .string (ba' v), .slice A np ac, .slice K nk kc]] w1 fun e w' => e = .returned (.int .i64 (sz : Int)) ∧ Below w1.heap.size w1 w')) (HCP : Hid (∀ w1 : World, Below w.heap.size w w1 → Calls Tryd.prog 17 #[.agg #[.int .i64 k, .string (ba' n), .string (ba' v), .slice A np ac, .slice K nk kc]] w1 fun e w' => ∃ t' : Tr, e = .returned t'.v ∧ t'.pl = T ∧ t'.In (NewB w1 w') w' ∧ Below w1.heap.size w1 w')) : Calls Tryd.prog 6 #[.agg #[.int .i64 k, .string (ba' n), .string (ba' v), .slice A np ac, .slice K nk kc], .int .i64 spare] w fun e w' => e = .returned (.bool true) ∧ Below w.heap.size w w' := by
  obtain ⟨q, hq, hk⟩ := spare_mod spare
  have hsz0 : 0 < sz := by rw [← hsz]; exact size_pos T
  have hn1 : wrap64 ((sz : Int) + 1) = (sz : Int) + 1 := w64 _ (by omega) (by omega)
  have hn2 : wrap64 ((sz : Int) + 1 + (q : Int)) = (sz : Int) + 1 + (q : Int) := w64 _ (by omega) (by omega)
  have hn3 : wrap64 ((q : Int) + 2) = (q : Int) + 2 := w64 _ (by omega) (by omega)
  obtain ⟨lim, hlim⟩ : ∃ lim, sz + 1 + q = lim := ⟨_, rfl⟩
  have hl1 : 1 ≤ lim := by omega
  have hl2 : lim ≤ 1048576 := by omega
  have HNEW := Lib.hid (new_l lim hl1 hl2)
  have hcast : ((lim : Nat) : Int) = (sz : Int) + 1 + (q : Int) := by rw [← hlim]; omega
  rw [hcast] at HNEW
  have HT := Lib.hid hT; have HRT := Lib.hid hr; have HBK := Lib.hid hbk; have HSE := Lib.hid hsz; have HLIM := Lib.hid hlim; have HQ := Lib.hid hq; have HL2 := Lib.hid hl2
  clear hT hr hbk hsz hlim hl2 hl1 hcast
  go_enter Tryd.func6, Tryd.ntmps6
  go_wp2_with fail
  refine (HW.out _ (by repeat (with_reducible (first | exact Below.refl _ _ | assumption | apply ba | apply bd | apply bdr | (refine bs ?_ (by first | assumption | (simp; done) | (simp; omega))) | (refine bt ?_ (by assumption)))))).mono ?_; rintro e w1 ⟨rfl, hb1⟩; have hc1 := fun o => (bcell hb1).1 w.heap.size o (by first | assumption | (simp; done) | (simp; omega)); have z1 := zz hb1 (by first | assumption | (simp; done) | (simp; omega) : w.heap.size < _); have B1 : Below w.heap.size w w1 := by repeat (with_reducible (first | exact Below.refl _ _ | assumption | apply ba | apply bd | apply bdr | (refine bs ?_ (by first | assumption | (simp; done) | (simp; omega))) | (refine bt ?_ (by assumption))))
  go_wp2_with fail
  refine (HF.out _ _ _ (by repeat (with_reducible (first | exact Below.refl _ _ | assumption | apply ba | apply bd | apply bdr | (refine bs ?_ (by first | assumption | (simp; done) | (simp; omega))) | (refine bt ?_ (by assumption))))) (by simp) (by first | (simp; done) | (simp [*]; done)) (by first | (simp; done) | (simp [*]; done)) (by first | (simp; done) | (simp [*]; done)) (by first | (simp; done) | (simp [*]; done)) (by first | (simp; done) | (simp [*]; done))).mono ?_; rintro e w2 ⟨rfl, hb2⟩; have hc2 := fun o => (bcell hb2).1 w.heap.size o (by first | assumption | (simp; done) | (simp; omega)); have z2 := zz hb2 (by first | assumption | (simp; done) | (simp; omega) : w.heap.size < _); have B2 : Below w.heap.size w w2 := by repeat (with_reducible (first | exact Below.refl _ _ | assumption | apply ba | apply bd | apply bdr | (refine bs ?_ (by first | assumption | (simp; done) | (simp; omega))) | (refine bt ?_ (by assumption))))
  go_wp2_with fail
  refine (HR.out _ (by repeat (with_reducible (first | exact Below.refl _ _ | assumption | apply ba | apply bd | apply bdr | (refine bs ?_ (by first | assumption | (simp; done) | (simp; omega))) | (refine bt ?_ (by assumption)))))).mono ?_; rintro e w3 ⟨rfl, hb3⟩; have hc3 := fun o => (bcell hb3).1 w.heap.size o (by first | assumption | (simp; done) | (simp; omega)); have z3 := zz hb3 (by first | assumption | (simp; done) | (simp; omega) : w.heap.size < _); have B3 : Below w.heap.size w w3 := by repeat (with_reducible (first | exact Below.refl _ _ | assumption | apply ba | apply bd | apply bdr | (refine bs ?_ (by first | assumption | (simp; done) | (simp; omega))) | (refine bt ?_ (by assumption))))
  go_wp2_with fail
  refine (HSZ.out _ (by repeat (with_reducible (first | exact Below.refl _ _ | assumption | apply ba | apply bd | apply bdr | (refine bs ?_ (by first | assumption | (simp; done) | (simp; omega))) | (refine bt ?_ (by assumption)))))).mono ?_; rintro e w4 ⟨rfl, hb4⟩; have hc4 := fun o => (bcell hb4).1 w.heap.size o (by first | assumption | (simp; done) | (simp; omega)); have z4 := zz hb4 (by first | assumption | (simp; done) | (simp; omega) : w.heap.size < _); have B4 : Below w.heap.size w w4 := by repeat (with_reducible (first | exact Below.refl _ _ | assumption | apply ba | apply bd | apply bdr | (refine bs ?_ (by first | assumption | (simp; done) | (simp; omega))) | (refine bt ?_ (by assumption))))
  go_wp2_with fail
  refine (HNEW.out _).mono ?_
  rintro e w5 ⟨rfl, hst5, hb5, hs5⟩
  have hc5 := fun o => (bcell hb5).1 w.heap.size o (by first | assumption | (simp; done) | (simp; omega)); have z5 := zz hb5 (by first | assumption | (simp; done) | (simp; omega) : w.heap.size < _); have B5 : Below w.heap.size w w5 := by repeat (with_reducible (first | exact Below.refl _ _ | assumption | apply ba | apply bd | apply bdr | (refine bs ?_ (by first | assumption | (simp; done) | (simp; omega))) | (refine bt ?_ (by assumption))))
  have HST := Lib.hid hst5
  have hwz4 : w.heap.size < w4.heap.size := z4
  have hlt5 : w4.heap.size < w5.heap.size := by omega
  clear hst5 hs5
  go_wp2
  go_loopw [10] (fun s10 wx => ∃ (i : Nat) (A' : Option Addr) (c' : Nat), s10 = .int .i64 i ∧ i ≤ q + 1 ∧ Hid (StoreAt wx w4.heap.size lim A' c' (cL i)) ∧ Hid (blkOf A' ≠ some w5.heap.size) ∧ (wx.cell? ⟨w.heap.size, 0, none⟩ = some (.int .i64 k) ∧ wx.cell? ⟨w.heap.size, 1, none⟩ = some (.string (ba' n)) ∧ wx.cell? ⟨w.heap.size, 2, none⟩ = some (.string (ba' v)) ∧ wx.cell? ⟨w.heap.size, 3, none⟩ = some (.slice A np ac) ∧ wx.cell? ⟨w.heap.size, 4, none⟩ = some (.slice K nk kc) ∧ wx.cell? ⟨w5.heap.size, 0, none⟩ = some (.int .i64 5) ∧ wx.cell? ⟨w5.heap.size, 1, none⟩ = some (.string ⟨#[]⟩) ∧ wx.cell? ⟨w5.heap.size, 2, none⟩ = some (.string ⟨#[]⟩) ∧ wx.cell? ⟨w5.heap.size, 3, none⟩ = some (.slice none 0 0) ∧ wx.cell? ⟨w5.heap.size, 4, none⟩ = some (.slice none 0 0)) ∧ w5.heap.size < wx.heap.size ∧ Below w.heap.size w wx) (fun s10 _ => (q + 1) - (intOf s10).toNat)
  case atStart =>
    refine ⟨0, none, 0, rfl, by omega, Lib.hid (HST.out.below (ba (Below.refl _ _))), Lib.hid (by simp [blkOf]), ⟨?_, ?_, ?_, ?_, ?_, ?_, ?_, ?_, ?_, ?_⟩, by simp, by repeat (with_reducible (first | exact Below.refl _ _ | assumption | apply ba | apply bd | apply bdr | (refine bs ?_ (by first | assumption | (simp; done) | (simp; omega))) | (refine bt ?_ (by assumption))))⟩
    all_goals first | (go_simp; done) | (simp [*]; done) | (simp [go_sem, *]; done)
  case round =>
    obtain ⟨i, A6, c6, rfl, hi, hS6, hne6, ⟨e0, e1, e2, e3, e4, o0, o1, o2, o3, o4⟩, hz6, hB6⟩ := hrel
    have hlt6 := fun (b : Nat) (h : blkOf A6 = some b) => hS6.out.lt h
    have hneH : blkOf A6 ≠ some w.heap.size := fun h => by have := (hlt6 _ h).1; omega
    have HLT6 := Lib.hid hlt6
    have HNH := Lib.hid hneH
    clear hlt6 hneH
    by_cases hik : i ≤ q
    · have g1 : decide ((i : Int) ≤ (q : Int)) = true := by first | (simp; done) | (simp; omega)
      have HBD := Lib.hid (fun (w1 : World) (hb1 : Below wr.heap.size wr w1) => one_build w4.heap.size lim A6 c6 i w1 (Utf8Tabs_below (Utf8Tabs_below HT.out hB6) hb1) (hS6.out.below hb1) HL2.out (by have := HLIM.out; omega))
      go_wp2_with (go_at_call 18; go_must (refine (HBD.out _ (by repeat (with_reducible (first | exact Below.refl _ _ | assumption | apply ba | apply bd | apply bdr | (refine bs ?_ (by first | assumption | (simp; done) | (simp; omega))) | (refine bt ?_ (by assumption)))))).mono ?_); rintro e w7 ⟨rfl, A7, c7, hS7, hB7⟩; have HS7 := Lib.hid hS7; have HB7 := Lib.hid hB7; clear hS7 hB7)
      go_roundw
      case rel =>
        have hb7 := HB7.out
        have cH := fun o => World.cell?_of_block (a := ⟨w.heap.size, o, none⟩) (hb7.2.2.2.2 w.heap.size (by omega) (by omega) HNH.out).1
        have cO := fun o => World.cell?_of_block (a := ⟨w5.heap.size, o, none⟩) (hb7.2.2.2.2 w5.heap.size hz6 (by omega) hne6.out).1
        have y7 := hb7.2.2.2.1
        refine ⟨i + 1, A7, c7, by go_num, by omega, HS7, Lib.hid (hb7.2.2.2.2 w5.heap.size hz6 (by omega) hne6.out).2, ⟨(cH 0).trans e0, (cH 1).trans e1, (cH 2).trans e2, (cH 3).trans e3, (cH 4).trans e4, (cO 0).trans o0, (cO 1).trans o1, (cO 2).trans o2, (cO 3).trans o3, (cO 4).trans o4⟩, by omega, ?_⟩
        exact hB6.trans (hb7.below (by omega) (fun b h => by have := (HLT6.out b h).1; omega) (by omega))
      case measure => simp [intOf]; omega
    · obtain rfl : i = q + 1 := by omega
      have g1 : decide (((q + 1 : Nat) : Int) ≤ (q : Int)) = false := by first | (simp; done) | (simp; omega)
      have g2 : decide ((q : Int) + 1 ≤ (q : Int)) = false := by first | (simp; done) | (simp; omega)
      have HCPR := Lib.hid (HCP.out wr hB6)
      have hsbw : w4.heap.size < wr.heap.size := hS6.out.1
      clear hik
      go_wp2_with fail
      refine HCPR.out.mono ?_
      rintro e w8 ⟨t2, rfl, hpl, hin2, hb8⟩
      have B8 : Below w.heap.size w w8 := bt hB6 hb8
      have cH8 := fun o => (bcell hb8).1 w.heap.size o (by omega)
      have cO8 := fun o => (bcell hb8).1 w5.heap.size o hz6
      have y8 := hb8.size
      have hap : Apart (NewB wr w8) w4.heap.size A6 w8 := fun b hb => ⟨hb.2, by have := hb.1; omega, fun h => by have := (HLT6.out b h).2; have := hb.1; omega⟩
      have HB2 := Lib.hid (build_ok t2 (NewB wr w8) w8 w4.heap.size lim A6 c6 (cL (q + 1)) (Utf8Tabs_below HT.out B8) (hS6.out.below hb8) hin2 hap (by rw [hpl]; exact HBK.out) HL2.out (by rw [cL_len]; have := HLIM.out; omega) (by rw [hpl]; exact HRT.out) (by rw [cL_len, hpl, HSE.out]; have := HLIM.out; omega))
      rw [cL_len, hpl] at HB2
      have hq2 : (((q + 1 + 1 : Nat)) : Int) = (q : Int) + 2 := by omega
      rw [hq2] at HB2
      obtain ⟨k2, n2, v2, A2, ac2, ps2, K2, kc2, ks2⟩ := t2
      simp only [Tr.v] at HB2 ⊢
      clear hpl hin2 hap
      go_wp2_with fail
      refine HB2.out.mono ?_
      rintro e w9 ⟨rfl, A9, c9, hS9, hB9⟩
      have B9 : Below w.heap.size w w9 := B8.trans (hB9.below (by omega) (fun b h => by have := (HLT6.out b h).1; omega) (by omega))
      have cO9 := fun o => World.cell?_of_block (a := ⟨w5.heap.size, o, none⟩) (hB9.2.2.2.2 w5.heap.size (by omega) (by omega) hne6.out).1
      have hlen9 : (cL (q + 1) ++ T.lay (q + 1) 0).length = lim := by rw [List.length_append, cL_len, lay_len, HSE.out]; have := HLIM.out; omega
      have HFU := Lib.hid (fun (w1 : World) (hb1 : Below w9.heap.size w9 w1) => one_full w4.heap.size lim A9 c9 _ w1 (Utf8Tabs_below (Utf8Tabs_below HT.out B9) hb1) (hS9.below hb1) HL2.out hlen9)
      have HLE := Lib.hid (fun (w1 : World) (hb1 : Below w9.heap.size w9 w1) => len_any w4.heap.size lim A9 c9 _ w1 (hS9.below hb1))
      rw [hlen9, show ((lim : Nat) : Int) = (sz : Int) + 1 + (q : Int) by have := HLIM.out; omega] at HLE
      have HKI : Hid (∀ w1 : World, Below w9.heap.size w9 w1 → Calls Tryd.prog 32 #[.pointer (some ⟨w4.heap.size, 0, none⟩), .int .i64 1] w1 fun e w' => e = .returned (.int .i64 5) ∧ Below w1.heap.size w1 w') := Lib.hid fun w1 hb1 =>
        kind_in w4.heap.size lim A9 c9 _ 0 5 [] [] 0 1 w1 (hS9.below hb1) (by rw [List.getElem?_append_left (by rw [cL_len]; omega)]; unfold cL; simp) (by rw [hlen9]; exact HL2.out)
      clear hS9 hB9 hlen9
      go_wp2_with (first
        | (go_at_call 18; go_must (refine (HFU.out _ (by repeat (with_reducible (first | exact Below.refl _ _ | assumption | apply ba | apply bd | apply bdr | (refine bs ?_ (by first | assumption | (simp; done) | (simp; omega))) | (refine bt ?_ (by assumption)))))).mono ?_); rintro e wa ⟨rfl, hba⟩; have Ba : Below w9.heap.size w9 wa := by repeat (with_reducible (first | exact Below.refl _ _ | assumption | apply ba | apply bd | apply bdr | (refine bs ?_ (by first | assumption | (simp; done) | (simp; omega))) | (refine bt ?_ (by assumption)))))
        | (go_at_call 22; go_must (refine (HLE.out _ (by repeat (with_reducible (first | exact Below.refl _ _ | assumption | apply ba | apply bd | apply bdr | (refine bs ?_ (by first | assumption | (simp; done) | (simp; omega))) | (refine bt ?_ (by assumption)))))).mono ?_); rintro e wb ⟨rfl, hbb⟩; have Bb : Below w9.heap.size w9 wb := by repeat (with_reducible (first | exact Below.refl _ _ | assumption | apply ba | apply bd | apply bdr | (refine bs ?_ (by first | assumption | (simp; done) | (simp; omega))) | (refine bt ?_ (by assumption)))))
        | (go_at_call 32; go_must (refine (HKI.out _ (by repeat (with_reducible (first | exact Below.refl _ _ | assumption | apply ba | apply bd | apply bdr | (refine bs ?_ (by first | assumption | (simp; done) | (simp; omega))) | (refine bt ?_ (by assumption)))))).mono ?_); rintro e wc ⟨rfl, hbc⟩; have Bc : Below w9.heap.size w9 wc := by repeat (with_reducible (first | exact Below.refl _ _ | assumption | apply ba | apply bd | apply bdr | (refine bs ?_ (by first | assumption | (simp; done) | (simp; omega))) | (refine bt ?_ (by assumption))))))
      go_ret
      exact ⟨rfl, B9.trans (Bc.mono B9.size)⟩
end Go.Proofs.YtcmlfkoeajpliaaDoor
namespace Go.Proofs.YtcmlfkoeajpliaaDoor
open Go.RowKit Go.Lib
set_option maxRecDepth 100000
theorem full_law (t : Tr) (spare : Int) (w : World) (hT : tabs w) (hin : t.In (fun b => b < w.heap.size) w) (hbk : t.pl.bulk ≤ 1048576) :
    Calls Tryd.prog 6 #[t.v, .int .i64 spare] w fun e w' => e = .returned (.bool true) ∧ Below w.heap.size w w' := by
  have HW : Hid (∀ w1 : World, Below w.heap.size w w1 → Calls Tryd.prog 12 #[] w1 fun e w' => e = .returned (.bool true) ∧ Below w1.heap.size w1 w') :=
    Lib.hid fun w1 h1 => awake5 w1 (Utf8Tabs_below hT h1)
  have hP : ∀ w1 : World, Below w.heap.size w w1 → ∀ b, b < w.heap.size → b < w1.heap.size := fun w1 h1 b hb => Nat.lt_of_lt_of_le hb (Below.size h1)
  have HSZ : Hid (∀ w1 : World, Below w.heap.size w w1 → Calls Tryd.prog 20 #[t.v] w1 fun e w' => e = .returned (.int .i64 (t.pl.size : Int)) ∧ Below w1.heap.size w1 w') :=
    Lib.hid fun w1 h1 => size_any t _ w1 (hin.below (fun _ h => h) h1) (hP w1 h1) hbk
  have HCP : Hid (∀ w1 : World, Below w.heap.size w w1 → Calls Tryd.prog 17 #[t.v] w1 fun e w' => ∃ t' : Tr, e = .returned t'.v ∧ t'.pl = t.pl ∧ t'.In (NewB w1 w') w' ∧ Below w1.heap.size w1 w') :=
    Lib.hid fun w1 h1 => copy_any t _ w1 (hin.below (fun _ h => h) h1) (hP w1 h1) hbk
  have HR : Hid (∀ w1 : World, Below w.heap.size w w1 → Calls Tryd.prog 15 #[t.v, .int .i64 0] w1 fun e w' => e = .returned (.bool (t.pl.right 0)) ∧ Below w1.heap.size w1 w') :=
    Lib.hid fun w1 h1 => refRight_any t _ w1 0 (hin.below (fun _ h => h) h1) (hP w1 h1) hbk (by omega)
  obtain ⟨k, n, v, A, ac, ps, K, kc, ks⟩ := t
  have HF : Hid (∀ (w1 : World) (g cap : Nat), Below w.heap.size w w1 → g < w1.heap.size → w1.cell? ⟨g, 0, none⟩ = some (.int .i64 k) → w1.cell? ⟨g, 1, none⟩ = some (.string (ba' n)) → w1.cell? ⟨g, 2, none⟩ = some (.string (ba' v)) → w1.cell? ⟨g, 3, none⟩ = some (.slice A ps.length ac) → w1.cell? ⟨g, 4, none⟩ = some (.slice K ks.length kc) →
      Calls Tryd.prog 14 #[.int .i64 500, .slice (some ⟨g, 0, none⟩) 1 cap] w1 fun e w' => e = .returned (.bool (decide ((Tr.mk k n v A ac ps K kc ks).pl.size ≤ 500))) ∧ Below w1.heap.size w1 w') :=
    Lib.hid fun w1 g cap h1 hg h0 ha hb hc hd => few_one k n v A ac ps K kc ks _ w1 500 g cap (hin.below (fun _ h => h) h1) (hP w1 h1) hbk (by omega) hg h0 ha hb hc hd
  generalize hr : (Tr.mk k n v A ac ps K kc ks).pl.right 0 = rb at HR
  cases hf : decide ((Tr.mk k n v A ac ps K kc ks).pl.size ≤ 500) with
  | false =>
    rw [hf] at HF
    exact full_few k n v A K ps.length ks.length ac kc spare w HW HF rb HR
  | true =>
    rw [hf] at HF
    cases rb with
    | false => exact full_right k n v A K ps.length ks.length ac kc spare w HW HF HR
    | true => exact full_yes k n v A K ps.length ks.length ac kc spare w (Tr.mk k n v A ac ps K kc ks).pl hT hr hbk _ rfl (of_decide_eq_true hf) HW HF HR HSZ HCP
end Go.Proofs.YtcmlfkoeajpliaaDoor
