/- A kind, its next wider one, where one lies in another, the least in which two lie; counts. No condition beyond what the theorems state. -/
import Derived.Test.YtjpopmgnhgancaaDoorTypes
import Derived.Test.YtjpopmgnhgancaaDoorWords
import Derived.RowKit3
namespace Go.Proofs.YtjpopmgnhgancaaDoor
open Go.RowKit Go.Lib
set_option maxRecDepth 100000
set_option maxHeartbeats 8000000
/-- What the program's own table and count hold. -/
def TE (w : World) : Prop := (∀ j, j < 13 → w.cell? ⟨3, j, none⟩ = some (.int .i64 ((if j = 0 then 0 else aboveN j) : Nat))) ∧ w.cell? ⟨2, 0, none⟩ = some (.int .i64 2) ∧ w.cell? ⟨2, 1, none⟩ = some (.int .i64 0)
theorem TE.below {w w' : World} (h : TE w) (hb : Below w.heap.size w w') : TE w' := by
  obtain ⟨h1, h2, h3⟩ := h
  exact ⟨fun j hj => (hb.cell (p := ⟨3, j, none⟩) (World.block_lt_of_cell? w _ (h1 j hj))).trans (h1 j hj), (hb.cell (p := ⟨2, 0, none⟩) (World.block_lt_of_cell? w _ h2)).trans h2, (hb.cell (p := ⟨2, 1, none⟩) (World.block_lt_of_cell? w _ h3)).trans h3⟩
theorem empty_ba (l : List UInt8) : (ba' l).toList.isEmpty = decide (l = []) := by
  rw [toList_ba]
  cases l with
  | nil => rfl
  | cons a l => simp
theorem wider_named (i : Nat) (n : List UInt8) (hn : n ≠ []) (w : World) :
    Calls Tryd.prog 61 #[.agg #[.int .i64 (i : Nat), .string (ba' n)]] w fun e w' => e = .returned (.agg #[.int .i64 (i : Nat), .string (ba' [])]) ∧ Below w.heap.size w w' := by
  have h1 : (ba' n).toList.isEmpty = false := by rw [empty_ba]; simpa using hn
  go_enter Tryd.func61, Tryd.ntmps61
  go_wp2
  exact bodyPost_ret (v := .agg #[.int .i64 (i : Nat), .string (ba' [])]) (by simp [results, Tryd.results61, go_sem, *] <;> rfl) rfl ⟨rfl, (by repeat (with_reducible (first | exact Below.refl _ _ | assumption | apply ba | apply bd | apply bdr | (refine bs ?_ (by first | assumption | (simp; done) | (simp; omega))) | (refine bt ?_ (by assumption)))))⟩
theorem wider_any (i : Nat) (hi : i = 0 ∨ i = 13) (w : World) :
    Calls Tryd.prog 61 #[.agg #[.int .i64 (i : Nat), .string (ba' [])]] w fun e w' => e = .returned (.agg #[.int .i64 13, .string (ba' [])]) ∧ Below w.heap.size w w' := by
  have h1 : (ba' []).toList.isEmpty = true := by rw [empty_ba]; rfl
  rcases hi with rfl | rfl
  · go_enter Tryd.func61, Tryd.ntmps61
    go_wp2
    exact bodyPost_ret (v := .agg #[.int .i64 13, .string (ba' [])]) (by simp [results, Tryd.results61, go_sem, *] <;> rfl) rfl ⟨rfl, (by repeat (with_reducible (first | exact Below.refl _ _ | assumption | apply ba | apply bd | apply bdr | (refine bs ?_ (by first | assumption | (simp; done) | (simp; omega))) | (refine bt ?_ (by assumption)))))⟩
  · go_enter Tryd.func61, Tryd.ntmps61
    go_wp2
    exact bodyPost_ret (v := .agg #[.int .i64 13, .string (ba' [])]) (by simp [results, Tryd.results61, go_sem, *] <;> rfl) rfl ⟨rfl, (by repeat (with_reducible (first | exact Below.refl _ _ | assumption | apply ba | apply bd | apply bdr | (refine bs ?_ (by first | assumption | (simp; done) | (simp; omega))) | (refine bt ?_ (by assumption)))))⟩
theorem wider_up (i : Nat) (h0 : 0 < i) (hi : i < 13) (w : World) (hE : TE w) :
    Calls Tryd.prog 61 #[.agg #[.int .i64 (i : Nat), .string (ba' [])]] w fun e w' => e = .returned (.agg #[.int .i64 (aboveN i : Nat), .string (ba' [])]) ∧ Below w.heap.size w w' := by
  have h1 : (ba' []).toList.isEmpty = true := by rw [empty_ba]; rfl
  have g0 : (i = 0) = False := by simp; omega
  have g1 : decide (13 ≤ (i : Int)) = false := by simp; omega
  have hc := hE.1 i hi
  rw [if_neg (by omega)] at hc
  have hs : 3 < w.heap.size := World.block_lt_of_cell? w _ hc
  go_enter Tryd.func61, Tryd.ntmps61
  go_wp2
  exact bodyPost_ret (v := .agg #[.int .i64 (aboveN i : Nat), .string (ba' [])]) (by simp [results, Tryd.results61, go_sem, *] <;> rfl) rfl ⟨rfl, (by repeat (with_reducible (first | exact Below.refl _ _ | assumption | apply ba | apply bd | apply bdr | (refine bs ?_ (by first | assumption | (simp; done) | (simp; omega))) | (refine bt ?_ (by assumption)))))⟩
/-- The next wider kind. -/
theorem wider_of (k : TK) (hk : GK k) (w : World) (hE : TE w) :
    Calls Tryd.prog 61 #[.agg #[.int .i64 (k.i : Nat), .string (ba' k.n)]] w fun e w' => e = .returned (.agg #[.int .i64 ((upK k).i : Nat), .string (ba' (upK k).n)]) ∧ Below w.heap.size w w' := by
  obtain ⟨i, n⟩ := k
  obtain ⟨h1, h2⟩ := hk
  by_cases hn : n = []
  · subst hn
    by_cases h0 : i = 0 ∨ i = 13
    · have e : upK ⟨i, []⟩ = ⟨13, []⟩ := by rcases h0 with rfl | rfl <;> rfl
      rw [e]
      exact wider_any i h0 w
    · have e : upK ⟨i, []⟩ = ⟨aboveN i, []⟩ := rfl
      rw [e]
      simp only at h1
      exact wider_up i (by omega) (by omega) w hE
  · have e : upK ⟨i, n⟩ = ⟨i, []⟩ := by rw [upK, if_neg hn]
    rw [e]
    exact wider_named i n hn w
end Go.Proofs.YtjpopmgnhgancaaDoor
namespace Go.Proofs.YtjpopmgnhgancaaDoor
open Go.RowKit Go.Lib
set_option maxRecDepth 100000
set_option maxHeartbeats 8000000
theorem eq_ba (a b : List UInt8) : decide (ba' a = ba' b) = decide (a = b) := by
  by_cases h : a = b
  · subst h; simp
  · have : ba' a ≠ ba' b := fun e => h (by have := congrArg ByteArray.toList e; rwa [toList_ba, toList_ba] at this)
    simp [h, this]
theorem kindOf_is (i : Int) (s : ByteArray) (o : Int) (w : World) : Calls Tryd.prog 41 #[.agg #[.int .i64 i, .string s, .int .i64 o]] w fun e w' => e = .returned (.agg #[.int .i64 i, .string s]) ∧ Below w.heap.size w w' := by
  go_enter Tryd.func41, Tryd.ntmps41
  go_wp2
  exact bodyPost_ret (v := .agg #[.int .i64 i, .string s]) (by simp [results, Tryd.results41, go_sem, *] <;> first | rfl | omega) rfl ⟨rfl, (by repeat (with_reducible (first | exact Below.refl _ _ | assumption | apply ba | apply bd | apply bdr | (refine bs ?_ (by first | assumption | (simp; done) | (simp; omega))) | (refine bt ?_ (by assumption)))))⟩
theorem exactly_is (n : Nat) (w : World) : Calls Tryd.prog 34 #[.int .i64 (n : Nat)] w fun e w' => e = .returned (.agg #[.int .i64 ((min n 2 : Nat) : Int), .int .i64 ((min n 2 : Nat) : Int)]) ∧ Below w.heap.size w w' := by
  go_enter Tryd.func34, Tryd.ntmps34
  go_wp2
  all_goals (exact bodyPost_ret (v := .agg #[.int .i64 ((min n 2 : Nat) : Int), .int .i64 ((min n 2 : Nat) : Int)]) (by simp [results, Tryd.results34, go_sem, *] <;> first | rfl | omega) rfl ⟨rfl, (by repeat (with_reducible (first | exact Below.refl _ _ | assumption | apply ba | apply bd | apply bdr | (refine bs ?_ (by first | assumption | (simp; done) | (simp; omega))) | (refine bt ?_ (by assumption)))))⟩)
theorem or_is (a b c d : Nat) (w : World) : Calls Tryd.prog 45 #[.agg #[.int .i64 (a : Nat), .int .i64 (b : Nat)], .agg #[.int .i64 (c : Nat), .int .i64 (d : Nat)]] w fun e w' => e = .returned (.agg #[.int .i64 ((min a c : Nat) : Int), .int .i64 ((max b d : Nat) : Int)]) ∧ Below w.heap.size w w' := by
  go_enter Tryd.func45, Tryd.ntmps45
  go_wp2
  all_goals (exact bodyPost_ret (v := .agg #[.int .i64 ((min a c : Nat) : Int), .int .i64 ((max b d : Nat) : Int)]) (by simp [results, Tryd.results45, go_sem, *] <;> first | rfl | omega) rfl ⟨rfl, (by repeat (with_reducible (first | exact Below.refl _ _ | assumption | apply ba | apply bd | apply bdr | (refine bs ?_ (by first | assumption | (simp; done) | (simp; omega))) | (refine bt ?_ (by assumption)))))⟩)
theorem plus_is (a b c d : Nat) (ha : a ≤ 9) (hb : b ≤ 9) (hc : c ≤ 9) (hd : d ≤ 9) (w : World) : Calls Tryd.prog 47 #[.agg #[.int .i64 (a : Nat), .int .i64 (b : Nat)], .agg #[.int .i64 (c : Nat), .int .i64 (d : Nat)]] w fun e w' => e = .returned (.agg #[.int .i64 ((min (a + c) 2 : Nat) : Int), .int .i64 ((min (b + d) 2 : Nat) : Int)]) ∧ Below w.heap.size w w' := by
  have h1 : IntKind.i64.wrap ((a : Int) + (c : Int)) = (a : Int) + c := by rw [IntKind.wrap_i64]; omega
  have h2 : IntKind.i64.wrap ((b : Int) + (d : Int)) = (b : Int) + d := by rw [IntKind.wrap_i64]; omega
  go_enter Tryd.func47, Tryd.ntmps47
  go_wp2
  all_goals (exact bodyPost_ret (v := .agg #[.int .i64 ((min (a + c) 2 : Nat) : Int), .int .i64 ((min (b + d) 2 : Nat) : Int)]) (by simp [results, Tryd.results47, go_sem, *] <;> first | rfl | omega) rfl ⟨rfl, (by repeat (with_reducible (first | exact Below.refl _ _ | assumption | apply ba | apply bd | apply bdr | (refine bs ?_ (by first | assumption | (simp; done) | (simp; omega))) | (refine bt ?_ (by assumption)))))⟩)
theorem in_is (a b c d : Nat) (w : World) : Calls Tryd.prog 35 #[.agg #[.int .i64 (a : Nat), .int .i64 (b : Nat)], .agg #[.int .i64 (c : Nat), .int .i64 (d : Nat)]] w fun e w' => e = .returned (.bool (decide (c ≤ a) && decide (b ≤ d))) ∧ Below w.heap.size w w' := by
  have h1 : decide ((c : Int) ≤ (a : Int)) = decide (c ≤ a) := by simp
  have h2 : decide ((b : Int) ≤ (d : Int)) = decide (b ≤ d) := by simp
  go_enter Tryd.func35, Tryd.ntmps35
  go_wp2
  all_goals
    go_ret
    rename_i h
    exact ⟨by simp [h], (by repeat (with_reducible (first | exact Below.refl _ _ | assumption | apply ba | apply bd | apply bdr | (refine bs ?_ (by first | assumption | (simp; done) | (simp; omega))) | (refine bt ?_ (by assumption)))))⟩
theorem times_is (a b c d : Nat) (ha : a ≤ 2) (hb : b ≤ 2) (hc : c ≤ 2) (hd : d ≤ 2) (w : World) : Calls Tryd.prog 50 #[.agg #[.int .i64 (a : Nat), .int .i64 (b : Nat)], .agg #[.int .i64 (c : Nat), .int .i64 (d : Nat)]] w fun e w' => e = .returned (.agg #[.int .i64 ((min (a * c) 2 : Nat) : Int), .int .i64 ((min (b * d) 2 : Nat) : Int)]) ∧ Below w.heap.size w w' := by
  obtain ⟨x, hx⟩ : ∃ x, a * c = x := ⟨_, rfl⟩
  obtain ⟨y, hy⟩ : ∃ y, b * d = y := ⟨_, rfl⟩
  have hx4 : x ≤ 4 := by rw [← hx]; exact Nat.mul_le_mul ha hc
  have hy4 : y ≤ 4 := by rw [← hy]; exact Nat.mul_le_mul hb hd
  have h1 : IntKind.i64.wrap ((a : Int) * (c : Int)) = (x : Nat) := by rw [← Int.natCast_mul, hx, IntKind.wrap_i64]; omega
  have h2 : IntKind.i64.wrap ((b : Int) * (d : Int)) = (y : Nat) := by rw [← Int.natCast_mul, hy, IntKind.wrap_i64]; omega
  rw [hx, hy]
  go_enter Tryd.func50, Tryd.ntmps50
  go_wp2
  all_goals (exact bodyPost_ret (v := .agg #[.int .i64 ((min x 2 : Nat) : Int), .int .i64 ((min y 2 : Nat) : Int)]) (by simp [results, Tryd.results50, go_sem, *] <;> first | rfl | omega) rfl ⟨rfl, (by repeat (with_reducible (first | exact Below.refl _ _ | assumption | apply ba | apply bd | apply bdr | (refine bs ?_ (by first | assumption | (simp; done) | (simp; omega))) | (refine bt ?_ (by assumption)))))⟩)
def occN (c : CTy) : Nat := occC c
theorem occ_is (a b : Nat) (w : World) : Calls Tryd.prog 62 #[.agg #[.int .i64 (a : Nat), .int .i64 (b : Nat)]] w fun e w' => e = .returned (.int .i64 (occC (a, b) : Nat)) ∧ Below w.heap.size w w' := by
  go_enter Tryd.func62, Tryd.ntmps62
  go_wp2
  · rename_i h1 h2
    have e : occC (a, b) = 0 := by rw [occC, if_pos ⟨by simp only; omega, by simp only; omega⟩]
    rw [e]; go_ret; exact ⟨rfl, (by repeat (with_reducible (first | exact Below.refl _ _ | assumption | apply ba | apply bd | apply bdr | (refine bs ?_ (by first | assumption | (simp; done) | (simp; omega))) | (refine bt ?_ (by assumption)))))⟩
  · rename_i h1 h2
    have e : occC (a, b) = 1 := by rw [occC, if_neg (by rintro ⟨_, h⟩; simp only at h; omega), if_pos (by simp only; omega)]
    rw [e]; go_ret; exact ⟨rfl, (by repeat (with_reducible (first | exact Below.refl _ _ | assumption | apply ba | apply bd | apply bdr | (refine bs ?_ (by first | assumption | (simp; done) | (simp; omega))) | (refine bt ?_ (by assumption)))))⟩
  · rename_i h1 h2
    have e : occC (a, b) = 2 := by rw [occC, if_neg (by rintro ⟨h, _⟩; simp only at h; omega), if_neg (by simp only; omega), if_pos (by simp only; omega)]
    rw [e]; go_ret; exact ⟨rfl, (by repeat (with_reducible (first | exact Below.refl _ _ | assumption | apply ba | apply bd | apply bdr | (refine bs ?_ (by first | assumption | (simp; done) | (simp; omega))) | (refine bt ?_ (by assumption)))))⟩
  · rename_i h1 h2
    have e : occC (a, b) = 3 := by rw [occC, if_neg (by rintro ⟨h, _⟩; simp only at h; omega), if_neg (by simp only; omega), if_neg (by simp only; omega)]
    rw [e]; go_ret; exact ⟨rfl, (by repeat (with_reducible (first | exact Below.refl _ _ | assumption | apply ba | apply bd | apply bdr | (refine bs ?_ (by first | assumption | (simp; done) | (simp; omega))) | (refine bt ?_ (by assumption)))))⟩
end Go.Proofs.YtjpopmgnhgancaaDoor
namespace Go.Proofs.YtjpopmgnhgancaaDoor
open Go.RowKit Go.Lib
set_option maxRecDepth 100000
set_option maxHeartbeats 8000000
theorem exactly0 (w : World) : Calls Tryd.prog 34 #[.int .i64 0] w fun e w' => e = .returned (.agg #[.int .i64 0, .int .i64 0]) ∧ Below w.heap.size w w' := exactly_is 0 w
theorem exactly1 (w : World) : Calls Tryd.prog 34 #[.int .i64 1] w fun e w' => e = .returned (.agg #[.int .i64 1, .int .i64 1]) ∧ Below w.heap.size w w' := exactly_is 1 w
theorem exactly2 (w : World) : Calls Tryd.prog 34 #[.int .i64 2] w fun e w' => e = .returned (.agg #[.int .i64 2, .int .i64 2]) ∧ Below w.heap.size w w' := exactly_is 2 w
theorem count_no (o : Int) (s : ByteArray) (w : World) : Calls Tryd.prog 36 #[.agg #[.int .i64 0, .string s, .int .i64 o]] w fun e w' => e = .returned (.agg #[.int .i64 0, .int .i64 0]) ∧ Below w.heap.size w w' := by
  go_enter Tryd.func36, Tryd.ntmps36
  go_wp2_with fail
  refine (exactly0 _).mono ?_
  rintro e w1 ⟨rfl, hb1⟩; have B1 : Below w.heap.size w w1 := (by repeat (with_reducible (first | exact Below.refl _ _ | assumption | apply ba | apply bd | apply bdr | (refine bs ?_ (by first | assumption | (simp; done) | (simp; omega))) | (refine bt ?_ (by assumption))))); have y1 := B1.size; have hc1_0 := fun o => (bcell hb1).1 (w.heap.size) o (by first | (simp; done) | assumption | (simp; omega)); have hf1_0 := fun o => (bcell hb1).2 (w.heap.size) o (by first | (simp; done) | assumption | (simp; omega)); have z1_0 : w.heap.size < w1.heap.size := zz hb1 (by first | (simp; done) | assumption | (simp; omega)); have hc1_1 := fun o => (bcell hb1).1 (w.heap.size + 1) o (by first | (simp; done) | assumption | (simp; omega)); have hf1_1 := fun o => (bcell hb1).2 (w.heap.size + 1) o (by first | (simp; done) | assumption | (simp; omega)); have z1_1 : w.heap.size + 1 < w1.heap.size := zz hb1 (by first | (simp; done) | assumption | (simp; omega))
  go_wp2
  exact bodyPost_ret (v := .agg #[.int .i64 0, .int .i64 0]) (by simp [results, Tryd.results36, go_sem, *] <;> first | rfl | omega) rfl ⟨rfl, (by repeat (with_reducible (first | exact Below.refl _ _ | assumption | apply ba | apply bd | apply bdr | (refine bs ?_ (by first | assumption | (simp; done) | (simp; omega))) | (refine bt ?_ (by assumption)))))⟩
theorem count_one (i : Nat) (h0 : ¬ i = 0) (s : ByteArray) (w : World) : Calls Tryd.prog 36 #[.agg #[.int .i64 (i : Nat), .string s, .int .i64 0]] w fun e w' => e = .returned (.agg #[.int .i64 1, .int .i64 1]) ∧ Below w.heap.size w w' := by
  have h1 : decide (i = 0) = false := by simpa using h0
  have h2 : (i = 0) = False := by simpa using h0
  go_enter Tryd.func36, Tryd.ntmps36
  go_wp2_with fail
  refine (exactly1 _).mono ?_
  rintro e w1 ⟨rfl, hb1⟩; have B1 : Below w.heap.size w w1 := (by repeat (with_reducible (first | exact Below.refl _ _ | assumption | apply ba | apply bd | apply bdr | (refine bs ?_ (by first | assumption | (simp; done) | (simp; omega))) | (refine bt ?_ (by assumption))))); have y1 := B1.size; have hc1_0 := fun o => (bcell hb1).1 (w.heap.size) o (by first | (simp; done) | assumption | (simp; omega)); have hf1_0 := fun o => (bcell hb1).2 (w.heap.size) o (by first | (simp; done) | assumption | (simp; omega)); have z1_0 : w.heap.size < w1.heap.size := zz hb1 (by first | (simp; done) | assumption | (simp; omega)); have hc1_1 := fun o => (bcell hb1).1 (w.heap.size + 1) o (by first | (simp; done) | assumption | (simp; omega)); have hf1_1 := fun o => (bcell hb1).2 (w.heap.size + 1) o (by first | (simp; done) | assumption | (simp; omega)); have z1_1 : w.heap.size + 1 < w1.heap.size := zz hb1 (by first | (simp; done) | assumption | (simp; omega))
  go_wp2
  exact bodyPost_ret (v := .agg #[.int .i64 1, .int .i64 1]) (by simp [results, Tryd.results36, go_sem, *] <;> first | rfl | omega) rfl ⟨rfl, (by repeat (with_reducible (first | exact Below.refl _ _ | assumption | apply ba | apply bd | apply bdr | (refine bs ?_ (by first | assumption | (simp; done) | (simp; omega))) | (refine bt ?_ (by assumption)))))⟩
theorem count_opt (i : Nat) (h0 : ¬ i = 0) (s : ByteArray) (w : World) : Calls Tryd.prog 36 #[.agg #[.int .i64 (i : Nat), .string s, .int .i64 1]] w fun e w' => e = .returned (.agg #[.int .i64 0, .int .i64 1]) ∧ Below w.heap.size w w' := by
  have h1 : decide (i = 0) = false := by simpa using h0
  have h2 : (i = 0) = False := by simpa using h0
  go_enter Tryd.func36, Tryd.ntmps36
  go_wp2
  exact bodyPost_ret (v := .agg #[.int .i64 0, .int .i64 1]) (by simp [results, Tryd.results36, go_sem, *] <;> first | rfl | omega) rfl ⟨rfl, (by repeat (with_reducible (first | exact Below.refl _ _ | assumption | apply ba | apply bd | apply bdr | (refine bs ?_ (by first | assumption | (simp; done) | (simp; omega))) | (refine bt ?_ (by assumption)))))⟩
theorem count_plus (i : Nat) (h0 : ¬ i = 0) (s : ByteArray) (w : World) : Calls Tryd.prog 36 #[.agg #[.int .i64 (i : Nat), .string s, .int .i64 2]] w fun e w' => e = .returned (.agg #[.int .i64 1, .int .i64 2]) ∧ Below w.heap.size w w' := by
  have h1 : decide (i = 0) = false := by simpa using h0
  have h2 : (i = 0) = False := by simpa using h0
  go_enter Tryd.func36, Tryd.ntmps36
  go_wp2
  exact bodyPost_ret (v := .agg #[.int .i64 1, .int .i64 2]) (by simp [results, Tryd.results36, go_sem, *] <;> first | rfl | omega) rfl ⟨rfl, (by repeat (with_reducible (first | exact Below.refl _ _ | assumption | apply ba | apply bd | apply bdr | (refine bs ?_ (by first | assumption | (simp; done) | (simp; omega))) | (refine bt ?_ (by assumption)))))⟩
theorem count_star (i : Nat) (h0 : ¬ i = 0) (s : ByteArray) (w : World) : Calls Tryd.prog 36 #[.agg #[.int .i64 (i : Nat), .string s, .int .i64 3]] w fun e w' => e = .returned (.agg #[.int .i64 0, .int .i64 2]) ∧ Below w.heap.size w w' := by
  have h1 : decide (i = 0) = false := by simpa using h0
  have h2 : (i = 0) = False := by simpa using h0
  go_enter Tryd.func36, Tryd.ntmps36
  go_wp2
  exact bodyPost_ret (v := .agg #[.int .i64 0, .int .i64 2]) (by simp [results, Tryd.results36, go_sem, *] <;> first | rfl | omega) rfl ⟨rfl, (by repeat (with_reducible (first | exact Below.refl _ _ | assumption | apply ba | apply bd | apply bdr | (refine bs ?_ (by first | assumption | (simp; done) | (simp; omega))) | (refine bt ?_ (by assumption)))))⟩
theorem countOf_is (i o : Nat) (ho : o ≤ 3) (s : ByteArray) (w : World) : Calls Tryd.prog 36 #[.agg #[.int .i64 (i : Nat), .string s, .int .i64 (o : Nat)]] w fun e w' => e = .returned (.agg #[.int .i64 ((cz (decide (i = 0)) o).1 : Nat), .int .i64 ((cz (decide (i = 0)) o).2 : Nat)]) ∧ Below w.heap.size w w' := by
  by_cases h0 : i = 0
  · subst h0
    exact count_no _ s w
  · rw [decide_eq_false h0]
    obtain rfl | rfl | rfl | rfl : o = 0 ∨ o = 1 ∨ o = 2 ∨ o = 3 := by omega
    · exact count_one i h0 s w
    · exact count_opt i h0 s w
    · exact count_plus i h0 s w
    · exact count_star i h0 s w
end Go.Proofs.YtjpopmgnhgancaaDoor
namespace Go.Proofs.YtjpopmgnhgancaaDoor
open Go.RowKit Go.Lib
set_option maxRecDepth 100000
set_option maxHeartbeats 8000000
theorem lies_zero (n : List UInt8) (o : TK) (w : World) :
    Calls Tryd.prog 42 #[.agg #[.int .i64 0, .string (ba' n)], .agg #[.int .i64 (o.i : Nat), .string (ba' o.n)]] w fun e w' => e = .returned (.bool true) ∧ Below w.heap.size w w' := by
  go_enter Tryd.func42, Tryd.ntmps42
  go_wp2
  go_ret
  exact ⟨rfl, (by repeat (with_reducible (first | exact Below.refl _ _ | assumption | apply ba | apply bd | apply bdr | (refine bs ?_ (by first | assumption | (simp; done) | (simp; omega))) | (refine bt ?_ (by assumption)))))⟩
theorem ba_list (l : List UInt8) : (ba' l).toList = l := toList_ba l
theorem lies_pos (k o : TK) (hk : GK k) (h0 : k.i ≠ 0) (w : World) (hE : TE w) :
    Calls Tryd.prog 42 #[.agg #[.int .i64 (k.i : Nat), .string (ba' k.n)], .agg #[.int .i64 (o.i : Nat), .string (ba' o.n)]] w fun e w' => e = .returned (.bool (chaseK (farK k) k o)) ∧ Below w.heap.size w w' := by
  have HW : Hid (∀ (q : TK) (W : World), GK q → Below w.heap.size w W → Calls Tryd.prog 61 #[.agg #[.int .i64 (q.i : Nat), .string (ba' q.n)]] W fun e w' => e = .returned (.agg #[.int .i64 ((upK q).i : Nat), .string (ba' (upK q).n)]) ∧ Below W.heap.size W w') := Lib.hid fun q W hq hb => wider_of q hq W (hE.below hb)
  obtain ⟨r, hr⟩ : ∃ r, chaseK (farK k) k o = r := ⟨_, rfl⟩
  have HR := Lib.hid hr
  rw [hr]
  have g0 : (k.i = 0) = False := by simpa using h0
  have g0b : ((k.i : Int) == 0) = false := by simpa using h0
  have HK := Lib.hid (⟨hk, h0⟩ : _ ∧ _)
  obtain ⟨oi, on⟩ := o
  simp only at *
  clear hr hE hk h0
  go_enter Tryd.func42, Tryd.ntmps42
  go_wp2
  go_loopg [] (farK k) (fun gf wx => ∃ q : TK, Hid (GK q ∧ q.i ≠ 0 ∧ farK q = gf) ∧ Hid (chaseK gf q ⟨oi, on⟩ = r) ∧ wx.cell? ⟨w.heap.size, 0, none⟩ = some (.int .i64 (q.i : Nat)) ∧ wx.cell? ⟨w.heap.size, 1, none⟩ = some (.string (ba' q.n)) ∧ wx.frozen? ⟨w.heap.size, 0, none⟩ = false ∧ wx.frozen? ⟨w.heap.size, 1, none⟩ = false ∧ wx.cell? ⟨w.heap.size + 1, 0, none⟩ = some (.int .i64 (oi : Nat)) ∧ wx.cell? ⟨w.heap.size + 1, 1, none⟩ = some (.string (ba' on)) ∧ wx.cell? ⟨w.heap.size + 1 + 1, 0, none⟩ = some (.int .i64 13) ∧ wx.cell? ⟨w.heap.size + 1 + 1, 1, none⟩ = some (.string ⟨#[]⟩) ∧ w.heap.size + 1 + 1 < wx.heap.size ∧ Below w.heap.size w wx)
  case atStart => exact ⟨k, Lib.hid ⟨HK.out.1, HK.out.2, rfl⟩, HR, by go_simp, by go_simp, by simp only [frozen?_alloc_cells]; simp [World.frozen?], by simp only [frozen?_alloc_cells]; simp [World.frozen?], by go_simp, by go_simp, by go_simp, by go_simp, by simp, (by repeat (with_reducible (first | exact Below.refl _ _ | assumption | apply ba | apply bd | apply bdr | (refine bs ?_ (by first | assumption | (simp; done) | (simp; omega))) | (refine bt ?_ (by assumption)))))⟩
  case round =>
    obtain ⟨q, HQ, HC, c0, c1, f0, f1, c2, c3, c4, c5, hz, hB⟩ := hrel
    have HB := Lib.hid hB
    obtain ⟨qi, qn⟩ := q
    simp only at c0 c1
    clear hB HR HK
    by_cases e : (⟨qi, qn⟩ : TK) = ⟨oi, on⟩
    · obtain ⟨rfl, rfl⟩ : qi = oi ∧ qn = on := by cases e; exact ⟨rfl, rfl⟩
      have hrt : true = r := by
        have h := HC.out
        cases gk with
        | zero => rw [chaseK] at h; simpa using h
        | succ g => rw [chaseK, if_pos rfl] at h; exact h
      subst hrt
      go_wp2
      go_ret
      exact ⟨rfl, HB.out⟩
    by_cases ha : (⟨qi, qn⟩ : TK) = anyK
    · obtain ⟨rfl, rfl⟩ : qi = 13 ∧ qn = [] := by cases ha; exact ⟨rfl, rfl⟩
      have hrt : false = r := by
        have h := HC.out
        cases gk with
        | zero => rw [chaseK, decide_eq_false e] at h; exact h
        | succ g => rw [chaseK, if_neg e, if_pos ha] at h; exact h
      subst hrt
      have g5 : (ba' []).toList = [] := toList_ba []
      by_cases h13 : 13 = oi
      · subst h13
        have hon : ((ba' []).toList = (ba' on).toList) = False := by
          rw [eq_iff_iff, toList_ba, toList_ba]
          exact ⟨fun h => e (by rw [← h]), False.elim⟩
        have hon3 : ((ba' on).toList = []) = False := by
          rw [eq_iff_iff, toList_ba]
          exact ⟨fun h => e (by rw [← h]), False.elim⟩
        have hon2 : (([] : List UInt8) = (ba' on).toList) = False := by
          rw [eq_iff_iff, toList_ba]
          exact ⟨fun h => e (by rw [← h]), False.elim⟩
        go_wp2
        go_ret
        exact ⟨rfl, HB.out⟩
      · have a1 : ((13 : Int) = (oi : Int)) = False := by simp; omega
        go_wp2
        go_ret
        exact ⟨rfl, HB.out⟩
    · obtain ⟨g, hg⟩ : ∃ g, gk = g + 1 := by
        refine ⟨gk - 1, ?_⟩
        have := HQ.out
        by_cases hz0 : gk = 0
        · rw [hz0] at this; exact absurd (far_zero this.1 this.2.1 this.2.2) ha
        · omega
      subst hg
      have HN : Hid (chaseK g (upK ⟨qi, qn⟩) ⟨oi, on⟩ = r) := Lib.hid (by
        have h := HC.out
        rw [chaseK, if_neg e, if_neg ha] at h
        exact h)
      have HG : Hid (GK (upK ⟨qi, qn⟩) ∧ (upK ⟨qi, qn⟩).i ≠ 0 ∧ farK (upK ⟨qi, qn⟩) = g) := Lib.hid (by
        have h := HQ.out
        have := far_up h.1 ha h.2.1
        exact ⟨gk_up h.1, up_pos h.2.1, by omega⟩)
      have a3 : ((qi : Int) = 13) = False := by
        rw [eq_iff_iff]
        refine ⟨fun h => ha ?_, False.elim⟩
        have h13 : qi = 13 := by omega
        have hq := HQ.out.1.2
        by_cases hn : qn = []
        · rw [h13, hn]; rfl
        · have h := hq hn; simp only at h; omega
      have HW1 : Hid (Calls Tryd.prog 61 #[.agg #[.int .i64 (qi : Nat), .string (ba' qn)]] wr fun e w' => e = .returned (.agg #[.int .i64 ((upK ⟨qi, qn⟩).i : Nat), .string (ba' (upK ⟨qi, qn⟩).n)]) ∧ Below wr.heap.size wr w') := Lib.hid (HW.out _ wr HQ.out.1 HB.out)
      obtain ⟨⟨ui, un⟩, hu⟩ : ∃ u, upK ⟨qi, qn⟩ = u := ⟨_, rfl⟩
      rw [hu] at HN HG HW1
      simp only at HG HW1
      clear hu
      by_cases h1 : qi = oi
      · subst h1
        have a2 : ((ba' qn).toList = (ba' on).toList) = False := by
          rw [eq_iff_iff, toList_ba, toList_ba]
          exact ⟨fun h => e (by rw [h]), False.elim⟩
        clear e ha HQ HC HW
        go_wp2_with fail
        refine HW1.out.mono ?_
        rintro e w1 ⟨rfl, hb1⟩
        have q0 := ((bcell hb1).1 w.heap.size 0 (by omega)).trans c0
        have q1 := ((bcell hb1).1 w.heap.size 1 (by omega)).trans c1
        have q2 := ((bcell hb1).2 w.heap.size 0 (by omega)).trans f0
        have q3 := ((bcell hb1).2 w.heap.size 1 (by omega)).trans f1
        have q4 := ((bcell hb1).1 (w.heap.size + 1) 0 (by omega)).trans c2
        have q5 := ((bcell hb1).1 (w.heap.size + 1) 1 (by omega)).trans c3
        have q6 := ((bcell hb1).1 (w.heap.size + 1 + 1) 0 (by omega)).trans c4
        have q7 := ((bcell hb1).1 (w.heap.size + 1 + 1) 1 (by omega)).trans c5
        have q8 := hb1.size
        have HB1 := Lib.hid (bt HB.out hb1)
        clear hb1 c0 c1 f0 f1 c2 c3 c4 c5
        go_wp2
        go_roundg g
        case measure => omega
        case rel => exact ⟨⟨ui, un⟩, HG, HN, by go_simp, by go_simp, by go_simp, by go_simp, by go_simp, by go_simp, by go_simp, by go_simp, by simp; omega, bs (bs HB1.out (Nat.le_refl _)) (Nat.le_refl _)⟩
      · have a1 : ((qi : Int) = (oi : Int)) = False := by simp; omega
        clear e ha HQ HC HW
        go_wp2_with fail
        refine HW1.out.mono ?_
        rintro e w1 ⟨rfl, hb1⟩
        have q0 := ((bcell hb1).1 w.heap.size 0 (by omega)).trans c0
        have q1 := ((bcell hb1).1 w.heap.size 1 (by omega)).trans c1
        have q2 := ((bcell hb1).2 w.heap.size 0 (by omega)).trans f0
        have q3 := ((bcell hb1).2 w.heap.size 1 (by omega)).trans f1
        have q4 := ((bcell hb1).1 (w.heap.size + 1) 0 (by omega)).trans c2
        have q5 := ((bcell hb1).1 (w.heap.size + 1) 1 (by omega)).trans c3
        have q6 := ((bcell hb1).1 (w.heap.size + 1 + 1) 0 (by omega)).trans c4
        have q7 := ((bcell hb1).1 (w.heap.size + 1 + 1) 1 (by omega)).trans c5
        have q8 := hb1.size
        have HB1 := Lib.hid (bt HB.out hb1)
        clear hb1 c0 c1 f0 f1 c2 c3 c4 c5
        go_wp2
        go_roundg g
        case measure => omega
        case rel => exact ⟨⟨ui, un⟩, HG, HN, by go_simp, by go_simp, by go_simp, by go_simp, by go_simp, by go_simp, by go_simp, by go_simp, by simp; omega, bs (bs HB1.out (Nat.le_refl _)) (Nat.le_refl _)⟩
end Go.Proofs.YtjpopmgnhgancaaDoor
namespace Go.Proofs.YtjpopmgnhgancaaDoor
open Go.RowKit Go.Lib
set_option maxRecDepth 100000
set_option maxHeartbeats 8000000
theorem frz_past (w : World) (b o : Nat) (h : w.heap.size ≤ b) : w.frozen? ⟨b, o, none⟩ = false := by
  simp [World.frozen?, Array.getElem?_eq_none h]
theorem lies_is (k o : TK) (hk : GK k) (w : World) (hE : TE w) :
    Calls Tryd.prog 42 #[.agg #[.int .i64 (k.i : Nat), .string (ba' k.n)], .agg #[.int .i64 (o.i : Nat), .string (ba' o.n)]] w fun e w' => e = .returned (.bool (lieB k o)) ∧ Below w.heap.size w w' := by
  rw [lieB]
  by_cases h0 : k.i = 0
  · rw [if_pos h0, h0]
    exact lies_zero k.n o w
  · rw [if_neg h0]
    exact lies_pos k o hk h0 w hE
theorem with_zero_is (n : List UInt8) (oi : Nat) (on : List UInt8) (w : World) :
    Calls Tryd.prog 44 #[.agg #[.int .i64 0, .string (ba' n)], .agg #[.int .i64 (oi : Nat), .string (ba' on)]] w fun e w' => e = .returned (.agg #[.int .i64 (oi : Nat), .string (ba' on)]) ∧ Below w.heap.size w w' := by
  go_enter Tryd.func44, Tryd.ntmps44
  go_wp2
  exact bodyPost_ret (v := .agg #[.int .i64 (oi : Nat), .string (ba' on)]) (by simp [results, Tryd.results44, go_sem, *] <;> first | rfl | omega) rfl ⟨rfl, (by repeat (with_reducible (first | exact Below.refl _ _ | assumption | apply ba | apply bd | apply bdr | (refine bs ?_ (by first | assumption | (simp; done) | (simp; omega))) | (refine bt ?_ (by assumption)))))⟩
theorem with_pos_is (k o : TK) (hk : GK k) (ho : GK o) (h0 : k.i ≠ 0) (w : World) (hE : TE w) :
    Calls Tryd.prog 44 #[.agg #[.int .i64 (k.i : Nat), .string (ba' k.n)], .agg #[.int .i64 (o.i : Nat), .string (ba' o.n)]] w fun e w' => e = .returned (.agg #[.int .i64 ((climbK (farK k) k o).i : Nat), .string (ba' (climbK (farK k) k o).n)]) ∧ Below w.heap.size w w' := by
  have HW : Hid (∀ (q : TK) (W : World), GK q → Below w.heap.size w W → Calls Tryd.prog 61 #[.agg #[.int .i64 (q.i : Nat), .string (ba' q.n)]] W fun e w' => e = .returned (.agg #[.int .i64 ((upK q).i : Nat), .string (ba' (upK q).n)]) ∧ Below W.heap.size W w') := Lib.hid fun q W hq hb => wider_of q hq W (hE.below hb)
  have HL : Hid (∀ (q : TK) (W : World), Below w.heap.size w W → Calls Tryd.prog 42 #[.agg #[.int .i64 (o.i : Nat), .string (ba' o.n)], .agg #[.int .i64 (q.i : Nat), .string (ba' q.n)]] W fun e w' => e = .returned (.bool (lieB o q)) ∧ Below W.heap.size W w') := Lib.hid fun q W hb => lies_is o q ho W (hE.below hb)
  obtain ⟨r, hr⟩ : ∃ r, climbK (farK k) k o = r := ⟨_, rfl⟩
  have HR := Lib.hid hr
  rw [hr]
  have g0 : (k.i = 0) = False := by simpa using h0
  have g0b : ((k.i : Int) == 0) = false := by simpa using h0
  have HK := Lib.hid (⟨hk, h0⟩ : _ ∧ _)
  have HO := Lib.hid ho
  obtain ⟨oi, on⟩ := o
  obtain ⟨ri, rn⟩ := r
  simp only at *
  clear hr hE hk h0 ho
  go_enter Tryd.func44, Tryd.ntmps44
  go_wp2
  go_loopg [] (farK k) (fun gf wx => ∃ q : TK, Hid (GK q ∧ q.i ≠ 0 ∧ farK q = gf) ∧ Hid (climbK gf q ⟨oi, on⟩ = ⟨ri, rn⟩) ∧ wx.cell? ⟨w.heap.size, 0, none⟩ = some (.int .i64 (q.i : Nat)) ∧ wx.cell? ⟨w.heap.size, 1, none⟩ = some (.string (ba' q.n)) ∧ wx.frozen? ⟨w.heap.size, 0, none⟩ = false ∧ wx.frozen? ⟨w.heap.size, 1, none⟩ = false ∧ wx.cell? ⟨w.heap.size + 1, 0, none⟩ = some (.int .i64 (oi : Nat)) ∧ wx.cell? ⟨w.heap.size + 1, 1, none⟩ = some (.string (ba' on)) ∧ wx.cell? ⟨w.heap.size + 1 + 1, 0, none⟩ = some (.int .i64 0) ∧ wx.cell? ⟨w.heap.size + 1 + 1, 1, none⟩ = some (.string ⟨#[]⟩) ∧ wx.frozen? ⟨w.heap.size + 1 + 1, 0, none⟩ = false ∧ wx.frozen? ⟨w.heap.size + 1 + 1, 1, none⟩ = false ∧ w.heap.size + 1 + 1 < wx.heap.size ∧ Below w.heap.size w wx)
  case atStart => exact ⟨k, Lib.hid ⟨HK.out.1, HK.out.2, rfl⟩, HR, by go_simp, by go_simp, by simp only [frozen?_alloc_cells]; exact frz_past w _ _ (by omega), by simp only [frozen?_alloc_cells]; exact frz_past w _ _ (by omega), by go_simp, by go_simp, by go_simp, by go_simp, by simp only [frozen?_alloc_cells]; exact frz_past w _ _ (by omega), by simp only [frozen?_alloc_cells]; exact frz_past w _ _ (by omega), by simp, (by repeat (with_reducible (first | exact Below.refl _ _ | assumption | apply ba | apply bd | apply bdr | (refine bs ?_ (by first | assumption | (simp; done) | (simp; omega))) | (refine bt ?_ (by assumption)))))⟩
  case round =>
    obtain ⟨q, HQ, HC, c0, c1, f0, f1, c2, c3, c4, c5, f2, f3, hz, hB⟩ := hrel
    have HB := Lib.hid hB
    have HL1 := Lib.hid (HL.out q wr hB)
    obtain ⟨qi, qn⟩ := q
    simp only at c0 c1 HL1
    obtain ⟨b, hb⟩ : ∃ b, lieB ⟨oi, on⟩ ⟨qi, qn⟩ = b := ⟨_, rfl⟩
    rw [hb] at HL1
    have HBE := Lib.hid hb
    clear hB HR HK HL hb
    go_wp2_with fail
    refine HL1.out.mono ?_
    rintro e w1 ⟨rfl, hb1⟩
    have p0 := ((bcell hb1).1 (w.heap.size) 0 (by omega)).trans c0
    have p1 := ((bcell hb1).1 (w.heap.size) 1 (by omega)).trans c1
    have p2 := ((bcell hb1).1 (w.heap.size + 1) 0 (by omega)).trans c2
    have p3 := ((bcell hb1).1 (w.heap.size + 1) 1 (by omega)).trans c3
    have p4 := ((bcell hb1).1 (w.heap.size + 1 + 1) 0 (by omega)).trans c4
    have p5 := ((bcell hb1).1 (w.heap.size + 1 + 1) 1 (by omega)).trans c5
    have pf0 := ((bcell hb1).2 (w.heap.size) 0 (by omega)).trans f0
    have pf1 := ((bcell hb1).2 (w.heap.size) 1 (by omega)).trans f1
    have pf2 := ((bcell hb1).2 (w.heap.size + 1 + 1) 0 (by omega)).trans f2
    have pf3 := ((bcell hb1).2 (w.heap.size + 1 + 1) 1 (by omega)).trans f3
    have pz := hb1.size
    have HB1 := Lib.hid (bt HB.out hb1)
    clear hb1 c0 c1 c2 c3 c4 c5 f0 f1 f2 f3
    clear HL1
    cases b with
    | true =>
      have e : qi = ri ∧ qn = rn := by
        have h := HC.out
        cases gk with
        | zero => rw [climbK] at h; cases h; exact ⟨rfl, rfl⟩
        | succ g => rw [climbK, if_pos HBE.out] at h; cases h; exact ⟨rfl, rfl⟩
      obtain ⟨rfl, rfl⟩ := e
      go_wp2
      exact bodyPost_ret (v := .agg #[.int .i64 (qi : Nat), .string (ba' qn)]) (by simp [results, Tryd.results44, go_sem, *]) rfl ⟨rfl, bs (bs HB1.out (by simp; omega)) (by simp; omega)⟩
    | false =>
      have ha : (⟨qi, qn⟩ : TK) ≠ anyK := by
        intro ha
        have h := (lieB_is HO.out).2 (lie_any HO.out)
        rw [← ha, HBE.out] at h
        exact absurd h (by decide)
      obtain ⟨g, hg⟩ : ∃ g, gk = g + 1 := by
        refine ⟨gk - 1, ?_⟩
        have := HQ.out
        by_cases hz0 : gk = 0
        · rw [hz0] at this; exact absurd (far_zero this.1 this.2.1 this.2.2) ha
        · omega
      subst hg
      have HN : Hid (climbK g (upK ⟨qi, qn⟩) ⟨oi, on⟩ = ⟨ri, rn⟩) := Lib.hid (by
        have h := HC.out
        rw [climbK, HBE.out, if_neg (by decide)] at h
        exact h)
      have HG : Hid (GK (upK ⟨qi, qn⟩) ∧ (upK ⟨qi, qn⟩).i ≠ 0 ∧ farK (upK ⟨qi, qn⟩) = g) := Lib.hid (by
        have h := HQ.out
        have := far_up h.1 ha h.2.1
        exact ⟨gk_up h.1, up_pos h.2.1, by omega⟩)
      have HW1 : Hid (Calls Tryd.prog 61 #[.agg #[.int .i64 (qi : Nat), .string (ba' qn)]] w1 fun e w' => e = .returned (.agg #[.int .i64 ((upK ⟨qi, qn⟩).i : Nat), .string (ba' (upK ⟨qi, qn⟩).n)]) ∧ Below w1.heap.size w1 w') := Lib.hid (HW.out _ w1 HQ.out.1 HB1.out)
      obtain ⟨⟨ui, un⟩, hu⟩ : ∃ u, upK ⟨qi, qn⟩ = u := ⟨_, rfl⟩
      rw [hu] at HN HG HW1
      simp only at HG HW1
      clear hu ha HQ HC HW
      go_wp2_with fail
      refine HW1.out.mono ?_
      rintro e w2 ⟨rfl, hb2⟩
      have q0 := ((bcell hb2).1 (w.heap.size) 0 (by omega)).trans p0
      have q1 := ((bcell hb2).1 (w.heap.size) 1 (by omega)).trans p1
      have q2 := ((bcell hb2).1 (w.heap.size + 1) 0 (by omega)).trans p2
      have q3 := ((bcell hb2).1 (w.heap.size + 1) 1 (by omega)).trans p3
      have q4 := ((bcell hb2).1 (w.heap.size + 1 + 1) 0 (by omega)).trans p4
      have q5 := ((bcell hb2).1 (w.heap.size + 1 + 1) 1 (by omega)).trans p5
      have qf0 := ((bcell hb2).2 (w.heap.size) 0 (by omega)).trans pf0
      have qf1 := ((bcell hb2).2 (w.heap.size) 1 (by omega)).trans pf1
      have qf2 := ((bcell hb2).2 (w.heap.size + 1 + 1) 0 (by omega)).trans pf2
      have qf3 := ((bcell hb2).2 (w.heap.size + 1 + 1) 1 (by omega)).trans pf3
      have qz := hb2.size
      have HB2 := Lib.hid (bt HB1.out hb2)
      clear hb2 p0 p1 p2 p3 p4 p5 pf0 pf1 pf2 pf3
      go_wp2
      go_roundg g
      case measure => omega
      case rel => exact ⟨⟨ui, un⟩, HG, HN, by go_simp, by go_simp, by go_simp, by go_simp, by go_simp, by go_simp, by go_simp, by go_simp, by go_simp, by go_simp, by simp; omega, bs (bs HB2.out (Nat.le_refl _)) (Nat.le_refl _)⟩
/-- The least kind in which both lie. -/
theorem with_is (k o : TK) (hk : GK k) (ho : GK o) (w : World) (hE : TE w) :
    Calls Tryd.prog 44 #[.agg #[.int .i64 (k.i : Nat), .string (ba' k.n)], .agg #[.int .i64 (o.i : Nat), .string (ba' o.n)]] w fun e w' => e = .returned (.agg #[.int .i64 ((withK k o).i : Nat), .string (ba' (withK k o).n)]) ∧ Below w.heap.size w w' := by
  rw [withK]
  by_cases h0 : k.i = 0
  · rw [if_pos h0, h0]
    exact with_zero_is k.n o.i o.n w
  · rw [if_neg h0]
    exact with_pos_is k o hk ho h0 w hE
end Go.Proofs.YtjpopmgnhgancaaDoor
