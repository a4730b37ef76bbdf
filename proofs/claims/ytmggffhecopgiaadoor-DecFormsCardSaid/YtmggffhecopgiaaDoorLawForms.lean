/- The statement DecForms answers true at every number and every text. No condition beyond what the theorems state. -/
import Derived.Test.YtmggffhecopgiaaDoorFormsMid
namespace Go.Proofs
open Go.Shelf Go.RowKit Go.Proofs.Wide Go.Proofs.Dig
set_option maxRecDepth 100000 in
set_option maxHeartbeats 8000000 in
theorem forms_core_bad (n k : Int) (hk : (decide (k < 0) = true) ∨ (decide (k < 0) = false ∧ decide (9 < k) = true)) (G11 : Hid (Gives 11 #[.int .i64 n, .int .i64 k] (.tuple #[.agg #[.int .i64 0, .int .i64 0], .int .i64 2]))) (s : ByteArray) (hl : s.size ≤ 3000) (pn pk pe : Int) (rb : Bool) (w0 : World) (W : Hid (Gives 8 #[] (.bool true)))
    (GP : Hid (Gives 14 #[.string s] (.tuple #[.agg #[.int .i64 pn, .int .i64 pk], .int .i64 pe]))) (GR : Hid (Gives 15 #[.string s] (.tuple #[.int .i64 pn, .int .i64 pk, .int .i64 pe])))
    (R : Hid (Gives 10 #[.agg #[.int .i64 n, .int .i64 k]] (.bool rb))) (H1 : Hid (Rights [(n, k)] rb)) (H2 : Hid (Rights [(1, 0), (n, k)] rb))
    (HT : rb = false ∨ (rb = true ∧ ∃ t : ByteArray, Hid (FmtG w0 n k t) ∧ Hid (Gives 14 #[.string t] (.tuple #[.agg #[.int .i64 n, .int .i64 k], .int .i64 0])) ∧ Hid (Gives 17 #[.int .i64 n, .int .i64 k] (.string t)))) :
    Calls Tryd.prog 3 #[.agg #[.int .i64 n, .int .i64 k], .string s] w0 fun e w' => e = .returned (.bool true) ∧ Below w0.heap.size w0 w' := by
  have HK := Lib.hid hk; clear hk
  have HH := Lib.hid HT
  have hl3 : decide ((3000 : Int) < (s.size : Int)) = false := by simp; omega
  clear HT hl
  go_enter Tryd.func3, Tryd.ntmps3
  go_upto_region 3 with (go_at_call 8; refine (W.out.call _).mono ?_; rintro e w1 ⟨rfl, hb1⟩; have A1 : Own w1 w0.heap.size (.int .i64 n) (.int .i64 k) := (Own.new_at rfl).call hb1)
  refine forms3 n k rb _ _ _ _ _ _ _ _ _ _ _ _ _ _ _ _ _ _ _ _ _ _ _ _ _ _ _ _ _ _ _ _ _ _ _ _ _ _ _ _ _ _ _ _ _ _ _ _ _ _ _ _ _ _ _ _ _ _ _ _ _ _ _ _ _ _ _ _ _ _ _ _ _ _ _ _ _ _ _ _ _ _ _ _ _ _ _ _ _ _ _ _ _ _ _ _ _ _ _ _ _ _ _ _ _ _ _ _ _ _ _ _ _ _ _ _ _ _ _ _ _ _ _ _ _ _ _ _ _ _ _ _ _ _ _ _ _ _ _ _ _ _ _ _ _ _ _ _ _ _ _ _ _ w0 w1 _ (bt (ba (Below.refl _ _)) hb1) A1 H1 H2 R ?_
  intro w2 y27 y35 A2 B2
  clear A1 hb1
  go_upto_region 5 with fail
  refine forms_bad n k HK.out G11 s pn pk pe rb _ _ _ _ _ _ _ _ _ _ _ _ _ _ _ _ _ _ _ _ _ _ _ _ _ _ _ _ _ _ _ _ _ _ _ _ _ _ _ _ _ _ _ _ _ _ _ _ _ _ _ _ _ _ _ _ _ _ _ _ _ _ _ _ _ _ _ _ _ _ _ _ _ _ _ _ _ _ _ _ _ _ _ _ _ _ _ _ _ _ _ _ _ _ _ _ _ _ _ _ _ _ _ _ _ _ _ _ _ _ _ _ _ _ _ _ _ _ _ _ _ _ _ _ _ _ _ _ _ _ _ _ _ _ _ _ _ _ _ _ _ _ _ _ _ _ _ _ _ _ _ _ w0 w2 B2 A2 GP GR R HH.out _ ?_
  assumption

set_option maxRecDepth 100000 in
set_option maxHeartbeats 8000000 in
theorem forms_core_good (n : Int) (j : Nat) (hj : j ≤ 9) (neg : Bool) (l : List Int) (F : Option (Int × Nat)) (hF : ∀ a c, F = some (a, c) → Hid (Rights [(a, (c : Int))] true)) (G11 : Hid (Gives 11 #[.int .i64 n, .int .i64 (j : Nat)] (.tuple #[.agg #[.int .i64 (outN F), .int .i64 (outK F)], .int .i64 (outE F)])))
    (HO : Hid (OfG n neg l)) (HF : Hid (FitG neg l j (outN F) (outK F) F.isSome)) (s : ByteArray) (hl : s.size ≤ 3000) (pn pk pe : Int) (rb : Bool) (w0 : World) (W : Hid (Gives 8 #[] (.bool true)))
    (GP : Hid (Gives 14 #[.string s] (.tuple #[.agg #[.int .i64 pn, .int .i64 pk], .int .i64 pe]))) (GR : Hid (Gives 15 #[.string s] (.tuple #[.int .i64 pn, .int .i64 pk, .int .i64 pe])))
    (R : Hid (Gives 10 #[.agg #[.int .i64 n, .int .i64 (j : Nat)]] (.bool rb))) (H1 : Hid (Rights [(n, (j : Nat))] rb)) (H2 : Hid (Rights [(1, 0), (n, (j : Nat))] rb))
    (HT : rb = false ∨ (rb = true ∧ ∃ t : ByteArray, Hid (FmtG w0 n (j : Nat) t) ∧ Hid (Gives 14 #[.string t] (.tuple #[.agg #[.int .i64 n, .int .i64 (j : Nat)], .int .i64 0])) ∧ Hid (Gives 17 #[.int .i64 n, .int .i64 (j : Nat)] (.string t)))) :
    Calls Tryd.prog 3 #[.agg #[.int .i64 n, .int .i64 (j : Nat)], .string s] w0 fun e w' => e = .returned (.bool true) ∧ Below w0.heap.size w0 w' := by
  have HFF := Lib.hid hF; clear hF
  have HH := Lib.hid HT
  have hl3 : decide ((3000 : Int) < (s.size : Int)) = false := by simp; omega
  clear HT hl
  go_enter Tryd.func3, Tryd.ntmps3
  go_upto_region 3 with (go_at_call 8; refine (W.out.call _).mono ?_; rintro e w1 ⟨rfl, hb1⟩; have A1 : Own w1 w0.heap.size (.int .i64 n) (.int .i64 (j : Nat)) := (Own.new_at rfl).call hb1)
  refine forms3 n (j : Nat) rb _ _ _ _ _ _ _ _ _ _ _ _ _ _ _ _ _ _ _ _ _ _ _ _ _ _ _ _ _ _ _ _ _ _ _ _ _ _ _ _ _ _ _ _ _ _ _ _ _ _ _ _ _ _ _ _ _ _ _ _ _ _ _ _ _ _ _ _ _ _ _ _ _ _ _ _ _ _ _ _ _ _ _ _ _ _ _ _ _ _ _ _ _ _ _ _ _ _ _ _ _ _ _ _ _ _ _ _ _ _ _ _ _ _ _ _ _ _ _ _ _ _ _ _ _ _ _ _ _ _ _ _ _ _ _ _ _ _ _ _ _ _ _ _ _ _ _ _ _ _ _ _ _ w0 w1 _ (bt (ba (Below.refl _ _)) hb1) A1 H1 H2 R ?_
  intro w2 y27 y35 A2 B2
  clear A1 hb1
  go_upto_region 5 with fail
  refine forms_good n j hj neg l F HFF.out G11 HO HF s pn pk pe rb _ _ _ _ _ _ _ _ _ _ _ _ _ _ _ _ _ _ _ _ _ _ _ _ _ _ _ _ _ _ _ _ _ _ _ _ _ _ _ _ _ _ _ _ _ _ _ _ _ _ _ _ _ _ _ _ _ _ _ _ _ _ _ _ _ _ _ _ _ _ _ _ _ _ _ _ _ _ _ _ _ _ _ _ _ _ _ _ _ _ _ _ _ _ _ _ _ _ _ _ _ _ _ _ _ _ _ _ _ _ _ _ _ _ _ _ _ _ _ _ _ _ _ _ _ _ _ _ _ _ _ _ _ _ _ _ _ _ _ _ _ _ _ _ _ _ _ _ _ _ _ _ w0 w2 B2 A2 GP GR R HH.out _ ?_
  assumption

set_option maxRecDepth 100000 in
set_option maxHeartbeats 8000000 in
theorem forms_long (n k : Int) (s : ByteArray) (hl : 3000 < s.size) (w0 : World) (W : Hid (Gives 8 #[] (.bool true))) :
    Calls Tryd.prog 3 #[.agg #[.int .i64 n, .int .i64 k], .string s] w0 fun e w' => e = .returned (.bool true) ∧ Below w0.heap.size w0 w' := by
  have hl3 : decide ((3000 : Int) < (s.size : Int)) = true := by simp; omega
  clear hl
  go_enter Tryd.func3, Tryd.ntmps3
  go_upto_region 2 with (go_at_call 8; refine (W.out.call _).mono ?_; rintro e w1 ⟨rfl, hb1⟩)
  go_wp2_with (go_at_call 8; refine (W.out.call _).mono ?_; rintro e w9 ⟨rfl, hb9⟩)
  go_ret
  exact ⟨rfl, by repeat (first | exact Below.refl _ _ | apply ba | (refine bt ?_ (by assumption)))⟩
theorem rights_of (L : List (Int × Int)) (hL : ∀ p ∈ L, InI p.1 ∧ InI p.2) (hlen : L.length ≤ 1000000) (b : Bool) (h : L.all rightB = b) : Rights L b := fun w g hN hg => by
  have := right_any g L.length L w hL hlen hN hg
  rw [h] at this; exact this
theorem forms_law (n k : Int) (s : ByteArray) (w : World) (a : InI n) (b : InI k) (htab : Lib.TabIs Tryd.prog w "internal/strconv.uint64pow10" .u64 Lib.pow10Tab) :
    Calls Tryd.prog 3 #[nv n k, .string s] w fun e w' => e = .returned (.bool true) ∧ Below w.heap.size w w' := by
  by_cases hl : 3000 < s.size
  · exact forms_long n k s hl w wake
  · obtain ⟨l, rfl⟩ : ∃ l, s = ba' l := ⟨s.data.toList, by unfold ba'; simp⟩
    have hll : l.length ≤ 3000 := by rw [size_ba] at hl; omega
    have GP : Hid (Gives 14 #[.string (ba' l)] (.tuple #[.agg #[.int .i64 (parseZ l).1, .int .i64 (parseZ l).2.1], .int .i64 (parseZ l).2.2])) := gives_unfold fun w => parse_any l hll w
    have GR : Hid (Gives 15 #[.string (ba' l)] (.tuple #[.int .i64 (parseZ l).1, .int .i64 (parseZ l).2.1, .int .i64 (parseZ l).2.2])) := gives_unfold fun w => refParse_any l hll w
    have I1 : InI 1 ∧ InI 0 := by unfold InI; omega
    have R1 : Hid (Rights [(n, k)] (rightB (n, k))) := Lib.hid (rights_of _ (by intro p hp; simp at hp; subst hp; exact ⟨a, b⟩) (by simp) _ (by simp))
    have R2 : Hid (Rights [(1, 0), (n, k)] (rightB (n, k))) := Lib.hid (rights_of _ (by intro p hp; simp at hp; rcases hp with rfl | rfl; exact I1; exact ⟨a, b⟩) (by simp) _ (by simp [show rightB (1, 0) = true by decide]))
    have hT : rightB (n, k) = false ∨ (rightB (n, k) = true ∧ ∃ t : ByteArray, Hid (FmtG w n k t) ∧ Hid (Gives 14 #[.string t] (.tuple #[.agg #[.int .i64 n, .int .i64 k], .int .i64 0])) ∧ Hid (Gives 17 #[.int .i64 n, .int .i64 k] (.string t))) := by
      cases r1 : rightB (n, k) with
      | false => exact .inl rfl
      | true =>
        obtain ⟨j, rfl, z⟩ := right_of r1
        refine .inr ⟨rfl, ba' (formatL n j), Lib.hid fun w' hb => format_any n j z w' (tabIs_below htab hb), ?_, gives_unfold fun w => refFormat_any n j z w⟩
        refine gives_unfold fun w => ?_
        have := parse_any (formatL n j) (by have := format_len n j z; omega) w
        rw [parse_format n j z] at this
        exact this
    by_cases hk : 0 ≤ k ∧ k ≤ 9
    · obtain ⟨j, rfl⟩ := Int.eq_ofNat_of_zero_le hk.1
      have hj : j ≤ 9 := by omega
      have hd := digs_val n.natAbs
      refine forms_core_good n j hj (decide (n < 0)) (digs n.natAbs) (fitZ n j) (fun x c e => ?_) (gives_unfold fun w => make_any n j a hj w) (Lib.hid (of_g n a)) (Lib.hid fun w A c hr h1 h2 => ?_) (ba' l) (by omega) _ _ _ _ w wake GP GR (gr a b rfl) R1 R2 hT
      · have z := ((fit_some n x j c hj).1 e).1
        exact Lib.hid (rights_of _ (by intro p hp; simp at hp; subst hp; exact rz_inI z) (by simp) _ (by simp [rightB_of z]))
      · have := refFit_any (decide (n < 0)) A (digs n.natAbs) c j w hd.2.1 hr h1 h2 (by omega)
        have hs : sg (decide (n < 0)) (val (digs n.natAbs)) = n := by rw [hd.1]; unfold sg; by_cases hn : n < 0 <;> simp [hn] <;> omega
        rw [hs] at this
        exact this
    · have hkk : (decide (k < 0) = true) ∨ (decide (k < 0) = false ∧ decide (9 < k) = true) := by
        by_cases h1 : k < 0
        · exact .inl (by simpa using h1)
        · exact .inr ⟨by simpa using h1, by simp; omega⟩
      refine forms_core_bad n k hkk (gives_unfold fun w => ?_) (ba' l) (by omega) _ _ _ _ w wake GP GR (gr a b rfl) R1 R2 hT
      by_cases h1 : k < 0
      · exact make_low n k h1 w
      · exact make_high n k (by omega) w
end Go.Proofs
