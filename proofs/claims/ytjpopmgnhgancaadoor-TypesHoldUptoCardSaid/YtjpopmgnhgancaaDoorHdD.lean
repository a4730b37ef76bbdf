/- The statement TypesHold: its walk. No condition beyond what the theorems state. -/
import Derived.Test.YtjpopmgnhgancaaDoorHdC
import Derived.Test.YtjpopmgnhgancaaDoorKdP
import Derived.Test.YtjpopmgnhgancaaDoorKdK
import Derived.Test.YtjpopmgnhgancaaDoorHdA
namespace Go.Proofs.YtjpopmgnhgancaaDoor
open Go.RowKit Go.Lib
set_option maxRecDepth 100000
set_option maxHeartbeats 16000000
theorem matchB_fits (f : It → TT) (t : TT) (xs : List It) : matchB f t xs = fits (xs.map f) t := by
  unfold matchB fits
  rw [List.length_map, List.all_map]
  rfl
theorem lit160 (a : Array Value) (h : a.size = 160) : ∃ c : Nat → Value, (∀ i, a.getD i undef = c i) ∧ a = #[c 0, c 1, c 2, c 3, c 4, c 5, c 6, c 7, c 8, c 9, c 10, c 11, c 12, c 13, c 14, c 15, c 16, c 17, c 18, c 19, c 20, c 21, c 22, c 23, c 24, c 25, c 26, c 27, c 28, c 29, c 30, c 31, c 32, c 33, c 34, c 35, c 36, c 37, c 38, c 39, c 40, c 41, c 42, c 43, c 44, c 45, c 46, c 47, c 48, c 49, c 50, c 51, c 52, c 53, c 54, c 55, c 56, c 57, c 58, c 59, c 60, c 61, c 62, c 63, c 64, c 65, c 66, c 67, c 68, c 69, c 70, c 71, c 72, c 73, c 74, c 75, c 76, c 77, c 78, c 79, c 80, c 81, c 82, c 83, c 84, c 85, c 86, c 87, c 88, c 89, c 90, c 91, c 92, c 93, c 94, c 95, c 96, c 97, c 98, c 99, c 100, c 101, c 102, c 103, c 104, c 105, c 106, c 107, c 108, c 109, c 110, c 111, c 112, c 113, c 114, c 115, c 116, c 117, c 118, c 119, c 120, c 121, c 122, c 123, c 124, c 125, c 126, c 127, c 128, c 129, c 130, c 131, c 132, c 133, c 134, c 135, c 136, c 137, c 138, c 139, c 140, c 141, c 142, c 143, c 144, c 145, c 146, c 147, c 148, c 149, c 150, c 151, c 152, c 153, c 154, c 155, c 156, c 157, c 158, c 159] :=
  ⟨fun i => a.getD i undef, fun _ => rfl, (tmps_lit a 160 h).trans rfl⟩
theorem hold_right (a b c : TT) (ha : GT a) (hb : GT b) (hc : GT c) (hla : a.k.n.length ≤ 1099511627776) (hra : rightB (a.k.i : Nat) a.k.n (a.o : Nat) = true) (hlb : b.k.n.length ≤ 1099511627776) (hrb : rightB (b.k.i : Nat) b.k.n (b.o : Nat) = true) (hlc : c.k.n.length ≤ 1099511627776) (hrc : rightB (c.k.i : Nat) c.k.n (c.o : Nat) = true) (A0 : Option Addr) (cap0 nt : Nat) (ts : List Tr) (Bi : Option Addr) (mi kb : Nat) (ys : List It) (Ai : Option Addr) (ni ka : Nat) (xs : List It) (w : World) (hT : tabs w) (hE : TE w) (hK : TK2 w) (hR : RdP (fun b => b < w.heap.size) w 5 A0 nt (rowT ts)) (hlen : ts.length = nt) (hin : ∀ t ∈ ts, t.In (fun b => b < w.heap.size) w) (hbk : ∀ t ∈ ts, t.pl.bulk ≤ 1048576)
    (hxs : xs.length = ni) (hni : ni ≤ 50) (hI : IRow6 w Ai xs) (hys : ys.length = mi) (hmi : mi ≤ 50) (hJ : IRow6 w Bi ys) (hsz : ∀ x ∈ xs ++ ys, x.s.size ≤ 1099511627776 ∧ -9223372036854775808 ≤ x.n ∧ x.n ≤ 9223372036854775807) :
    Calls Tryd.prog 5 #[.slice A0 nt cap0, .agg #[.int .i64 (a.k.i : Nat), .string (ba' a.k.n), .int .i64 (a.o : Nat), .int .i64 (b.k.i : Nat), .string (ba' b.k.n), .int .i64 (b.o : Nat), .int .i64 (c.k.i : Nat), .string (ba' c.k.n), .int .i64 (c.o : Nat), .slice Bi mi kb], .slice Ai ni ka] w fun e w' => e = .returned (.bool true) ∧ Below w.heap.size w w' := by
  have HA : Hid (∀ w1, Below w.heap.size w w1 → Calls Tryd.prog 8 #[] w1 fun e w' => e = .returned (.bool true) ∧ Below w1.heap.size w1 w') := Lib.hid fun w1 h1 => awake_any w1 (hE.below h1)
  have HRa : Hid (∀ w1 : World, Calls Tryd.prog 10 #[.agg #[.int .i64 (a.k.i : Nat), .string (ba' a.k.n), .int .i64 (a.o : Nat)]] w1 fun e w' => e = .returned (.bool true) ∧ Below w1.heap.size w1 w') := Lib.hid fun w1 => by
    have h := right_ref (a.k.i : Nat) (a.o : Nat) a.k.n hla w1
    rw [hra] at h
    exact h
  have HRb : Hid (∀ w1 : World, Calls Tryd.prog 10 #[.agg #[.int .i64 (b.k.i : Nat), .string (ba' b.k.n), .int .i64 (b.o : Nat)]] w1 fun e w' => e = .returned (.bool true) ∧ Below w1.heap.size w1 w') := Lib.hid fun w1 => by
    have h := right_ref (b.k.i : Nat) (b.o : Nat) b.k.n hlb w1
    rw [hrb] at h
    exact h
  have HRc : Hid (∀ w1 : World, Calls Tryd.prog 10 #[.agg #[.int .i64 (c.k.i : Nat), .string (ba' c.k.n), .int .i64 (c.o : Nat)]] w1 fun e w' => e = .returned (.bool true) ∧ Below w1.heap.size w1 w') := Lib.hid fun w1 => by
    have h := right_ref (c.k.i : Nat) (c.o : Nat) c.k.n hlc w1
    rw [hrc] at h
    exact h
  have HLD : Hid (∀ w1 Al cl, Below w.heap.size w w1 → IRow6 w1 Al (xs ++ ys) → Calls Tryd.prog 12 #[.slice A0 nt cap0, .slice Al (ni + mi) cl] w1 fun e w' => (if (xs ++ ys).all okI then (∃ sb A c Al' cl' us, e = .returned (.tuple #[.pointer (some ⟨sb, 0, none⟩), .slice Al' (sizeL (plL us)) cl', .bool true]) ∧ LaidS w1 w' sb A c Al' cl' us ∧ plL us = laidT (plL ts) 6) else e = .returned (.tuple #[.pointer none, .slice none 0 0, .bool false])) ∧ Below w1.heap.size w1 w') := Lib.hid fun w1 Al cl h1 hI1 =>
    laid14_any (fun x => atomR x.k x.n x.c x.s.data.toList x.b) A0 cap0 nt ts Al cl (ni + mi) (xs ++ ys) w1 (Utf8Tabs_below hT h1) ⟨hR.1, fun h0 => by
      obtain ⟨a, e, hb, hc⟩ := hR.2 h0
      exact ⟨a, e, Nat.lt_of_lt_of_le hb h1.size, fun j u hu => (h1.cell (by rw [block_of_add]; exact hb)).trans (hc j u hu)⟩⟩ hlen (fun t ht => (hin t ht).keep (fun _ h => Nat.lt_of_lt_of_le h h1.size) (fun _ hp => h1.cell hp)) hbk (by rw [List.length_append, hxs, hys]) (by omega) hI1 (Lib.hid fun x hx _ w2 _ => atom_ref x.k x.n x.c x.s.data.toList x.b (hsz x hx).2.1 (hsz x hx).2.2 (by have := (hsz x hx).1; simpa using this) w2)
  have HE := Lib.hid hE; have HK2 := Lib.hid hK; have HII := Lib.hid hI; have HJJ := Lib.hid hJ; have HXS := Lib.hid hxs; have HYS := Lib.hid hys
  have HGA := Lib.hid ha; have HGB := Lib.hid hb; have HGC := Lib.hid hc
  have HSS := Lib.hid (fun (h1 : subT a b = true) (h2 : subT b c = true) => sub_trans ha hb h1 h2)
  have hgp := gt_eitherT ha hb
  have S1 : Hid (∀ w1, Below w.heap.size w w1 → Calls Tryd.prog 22 #[.agg #[.int .i64 (a.k.i : Nat), .string (ba' a.k.n), .int .i64 (a.o : Nat)], .agg #[.int .i64 (b.k.i : Nat), .string (ba' b.k.n), .int .i64 (b.o : Nat)]] w1 fun e w' => e = .returned (.bool (subT a b)) ∧ Below w1.heap.size w1 w') := Lib.hid fun w1 h1 => sub_t a b ha hb w1 (hE.below h1)
  have S2 : Hid (∀ w1, Below w.heap.size w w1 → Calls Tryd.prog 22 #[.agg #[.int .i64 (b.k.i : Nat), .string (ba' b.k.n), .int .i64 (b.o : Nat)], .agg #[.int .i64 (c.k.i : Nat), .string (ba' c.k.n), .int .i64 (c.o : Nat)]] w1 fun e w' => e = .returned (.bool (subT b c)) ∧ Below w1.heap.size w1 w') := Lib.hid fun w1 h1 => sub_t b c hb hc w1 (hE.below h1)
  have S3 : Hid (∀ w1, Below w.heap.size w w1 → Calls Tryd.prog 22 #[.agg #[.int .i64 (a.k.i : Nat), .string (ba' a.k.n), .int .i64 (a.o : Nat)], .agg #[.int .i64 (c.k.i : Nat), .string (ba' c.k.n), .int .i64 (c.o : Nat)]] w1 fun e w' => e = .returned (.bool (subT a c)) ∧ Below w1.heap.size w1 w') := Lib.hid fun w1 h1 => sub_t a c ha hc w1 (hE.below h1)
  have S4 : Hid (∀ w1, Below w.heap.size w w1 → Calls Tryd.prog 22 #[.agg #[.int .i64 (a.k.i : Nat), .string (ba' a.k.n), .int .i64 (a.o : Nat)], .agg #[.int .i64 (a.k.i : Nat), .string (ba' a.k.n), .int .i64 (a.o : Nat)]] w1 fun e w' => e = .returned (.bool true) ∧ Below w1.heap.size w1 w') := Lib.hid fun w1 h1 => by
    have h := sub_t a a ha ha w1 (hE.below h1)
    rw [sub_self ha] at h
    exact h
  have S5 : Hid (∀ w1, Below w.heap.size w w1 → Calls Tryd.prog 22 #[.agg #[.int .i64 (a.k.i : Nat), .string (ba' a.k.n), .int .i64 (a.o : Nat)], .agg #[.int .i64 ((eitherT [a, b]).k.i : Nat), .string (ba' (eitherT [a, b]).k.n), .int .i64 ((eitherT [a, b]).o : Nat)]] w1 fun e w' => e = .returned (.bool true) ∧ Below w1.heap.size w1 w') := Lib.hid fun w1 h1 => by
    have h := sub_t a (eitherT [a, b]) ha hgp w1 (hE.below h1)
    rw [sub_either_left ha hb] at h
    exact h
  have S6 : Hid (∀ w1, Below w.heap.size w w1 → Calls Tryd.prog 22 #[.agg #[.int .i64 (b.k.i : Nat), .string (ba' b.k.n), .int .i64 (b.o : Nat)], .agg #[.int .i64 ((eitherT [a, b]).k.i : Nat), .string (ba' (eitherT [a, b]).k.n), .int .i64 ((eitherT [a, b]).o : Nat)]] w1 fun e w' => e = .returned (.bool true) ∧ Below w1.heap.size w1 w') := Lib.hid fun w1 h1 => by
    have h := sub_t b (eitherT [a, b]) hb hgp w1 (hE.below h1)
    rw [sub_either_right ha hb] at h
    exact h
  have E1 : Hid (∀ w1 g, Below w.heap.size w w1 → g < w1.heap.size → TRow w1 g [a, b] → Calls Tryd.prog 19 #[.slice (some ⟨g, 0, none⟩) 2 2] w1 fun e w' => e = .returned (.agg #[.int .i64 ((eitherT [a, b]).k.i : Nat), .string (ba' (eitherT [a, b]).k.n), .int .i64 ((eitherT [a, b]).o : Nat)]) ∧ Below w1.heap.size w1 w') := Lib.hid fun w1 g h1 hg hr => either_t [a, b] (gt_two ha hb) 2 g rfl (by decide) w1 (hE.below h1) hr hg
  have E2 : Hid (∀ w1 g, Below w.heap.size w w1 → g < w1.heap.size → TRow w1 g [b, a] → Calls Tryd.prog 19 #[.slice (some ⟨g, 0, none⟩) 2 2] w1 fun e w' => e = .returned (.agg #[.int .i64 ((eitherT [b, a]).k.i : Nat), .string (ba' (eitherT [b, a]).k.n), .int .i64 ((eitherT [b, a]).o : Nat)]) ∧ Below w1.heap.size w1 w') := Lib.hid fun w1 g h1 hg hr => either_t [b, a] (gt_two hb ha) 2 g rfl (by decide) w1 (hE.below h1) hr hg
  have J1 : Hid (∀ w1 g, Below w.heap.size w w1 → g < w1.heap.size → TRow w1 g [a, b] → Calls Tryd.prog 20 #[.slice (some ⟨g, 0, none⟩) 2 2] w1 fun e w' => e = .returned (.agg #[.int .i64 ((joinT [a, b]).k.i : Nat), .string (ba' (joinT [a, b]).k.n), .int .i64 ((joinT [a, b]).o : Nat)]) ∧ Below w1.heap.size w1 w') := Lib.hid fun w1 g h1 hg hr => join_t [a, b] (gt_two ha hb) 2 g rfl (by decide) w1 (hE.below h1) hr hg
  have HEQ := Lib.hid (rfl : eitherT [b, a] = eitherT [b, a])
  obtain ⟨s1, hs1⟩ : ∃ s, subT a b = s := ⟨_, rfl⟩
  obtain ⟨s2, hs2⟩ : ∃ s, subT b c = s := ⟨_, rfl⟩
  obtain ⟨s3, hs3⟩ : ∃ s, subT a c = s := ⟨_, rfl⟩
  rw [hs1] at S1 HSS; rw [hs2] at S2 HSS; rw [hs3] at S3 HSS
  have HS3 := Lib.hid hs3
  have q1 : decide ((ni : Int) > 50) = false := by simp; omega
  have q2 : decide ((50 : Int) < (ni : Int)) = false := by simp; omega
  have q3 : decide ((mi : Int) > 50) = false := by simp; omega
  have q4 : decide ((50 : Int) < (mi : Int)) = false := by simp; omega
  have HNI := Lib.hid hni; have HMI := Lib.hid hmi
  clear hT hE hK hR hlen hin hbk hsz hla hlb hlc hra hrb hrc hs1 hs2 hs3 hI hJ hxs hys ha hb hc hgp
  -- the types by their parts
  obtain ⟨ta, hta⟩ : ∃ t, a = t := ⟨_, rfl⟩
  obtain ⟨tb, htb⟩ : ∃ t, b = t := ⟨_, rfl⟩
  obtain ⟨tc, htc⟩ : ∃ t, c = t := ⟨_, rfl⟩
  obtain ⟨tp, htp⟩ : ∃ t, eitherT [a, b] = t := ⟨_, rfl⟩
  obtain ⟨te, hte⟩ : ∃ t, eitherT [b, a] = t := ⟨_, rfl⟩
  obtain ⟨tj, htj⟩ : ∃ t, joinT [a, b] = t := ⟨_, rfl⟩
  rw [htp] at S5 S6 E1; rw [hte] at E2; rw [htj] at J1
  have HTA := Lib.hid hta; have HTB := Lib.hid htb; have HTC := Lib.hid htc; have HTE := Lib.hid hte; have HTJ := Lib.hid htj
  clear htp hte htj HEQ
  have hM : Hid (GT te ∧ GT tj) := Lib.hid ⟨HTE.out ▸ gt_eitherT HGB.out HGA.out, HTJ.out ▸ gt_joinT HGA.out HGB.out⟩
  rw [hta] at S1 S3 S4 S5 E1 E2 J1 HRa ⊢
  rw [htb] at S1 S2 S6 E1 E2 J1 HRb ⊢
  rw [htc] at S2 S3 HRc ⊢
  clear hta htb htc
  obtain ⟨⟨ai, an⟩, ao⟩ := ta
  obtain ⟨⟨bi, bn⟩, bo⟩ := tb
  obtain ⟨⟨ci, cn⟩, co⟩ := tc
  obtain ⟨⟨pi, pn⟩, po⟩ := tp
  obtain ⟨⟨ei, en⟩, eo⟩ := te
  obtain ⟨⟨ji, jn⟩, jo⟩ := tj
  simp only at S1 S2 S3 S4 S5 S6 E1 E2 J1 HRa HRb HRc ⊢
  go_enter Tryd.func5, Tryd.ntmps5
  go_wp2
  refine Ho1_region (b := w.heap.size) (xi := (ai : Int)) (xo := (ao : Int)) (xn := ba' an) (yi := (bi : Int)) (yo := (bo : Int)) (yn := ba' bn) (zi := (ci : Int)) (zo := (co : Int)) (zn := ba' cn) (Ai := Bi) (ni := mi) (ci := kb) (by first | assumption | (go_simp; done) | (go_simp; rfl) | (go_keep; done)) (by first | assumption | (go_simp; done) | (go_simp; rfl) | (go_keep; done)) (by first | assumption | (go_simp; done) | (go_simp; rfl) | (go_keep; done)) (by first | assumption | (go_simp; done) | (go_simp; rfl) | (go_keep; done)) (by first | assumption | (go_simp; done) | (go_simp; rfl) | (go_keep; done)) (by first | assumption | (go_simp; done) | (go_simp; rfl) | (go_keep; done)) (by first | assumption | (go_simp; done) | (go_simp; rfl) | (go_keep; done)) (by first | assumption | (go_simp; done) | (go_simp; rfl) | (go_keep; done)) (by first | assumption | (go_simp; done) | (go_simp; rfl) | (go_keep; done)) (by first | assumption | (go_simp; done) | (go_simp; rfl) | (go_keep; done)) ?_
  intro ga gb gc w1 n1 n2 n3 l1 l2 l3 bA bB bC hB1
  have B1 : Below w.heap.size w w1 := (by repeat (with_reducible (first | exact Below.refl _ _ | assumption | apply ba | apply bd | apply bdr | (refine bs ?_ (by first | assumption | (simp; done) | (simp; omega))) | (refine bt ?_ (by assumption)))))
  have a0_1 : w1.cell? ⟨ga, 0, none⟩ = some (.int .i64 (ai : Nat)) := bA.cell 0
  have a1_1 : w1.cell? ⟨ga, 1, none⟩ = some (.string (ba' an)) := bA.cell 1
  have a2_1 : w1.cell? ⟨ga, 2, none⟩ = some (.int .i64 (ao : Nat)) := bA.cell 2
  have b0_1 : w1.cell? ⟨gb, 0, none⟩ = some (.int .i64 (bi : Nat)) := bB.cell 0
  have b1_1 : w1.cell? ⟨gb, 1, none⟩ = some (.string (ba' bn)) := bB.cell 1
  have b2_1 : w1.cell? ⟨gb, 2, none⟩ = some (.int .i64 (bo : Nat)) := bB.cell 2
  have c0_1 : w1.cell? ⟨gc, 0, none⟩ = some (.int .i64 (ci : Nat)) := bC.cell 0
  have c1_1 : w1.cell? ⟨gc, 1, none⟩ = some (.string (ba' cn)) := bC.cell 1
  have c2_1 : w1.cell? ⟨gc, 2, none⟩ = some (.int .i64 (co : Nat)) := bC.cell 2
  have HB1 := Lib.hid B1
  clear bA bB bC hB1 B1 l1 l2 l3
  go_wp2_with fail
  refine (HA.out _ HB1.out).mono ?_
  rintro e w2 ⟨rfl, hb⟩
  have a0_2 := cell_call a0_1 hb
  have a1_2 := cell_call a1_1 hb
  have a2_2 := cell_call a2_1 hb
  have b0_2 := cell_call b0_1 hb
  have b1_2 := cell_call b1_1 hb
  have b2_2 := cell_call b2_1 hb
  have c0_2 := cell_call c0_1 hb
  have c1_2 := cell_call c1_1 hb
  have c2_2 := cell_call c2_1 hb
  have HB2 := Lib.hid (bt HB1.out hb)
  clear hb a0_1 a1_1 a2_1 b0_1 b1_1 b2_1 c0_1 c1_1 c2_1
  go_wp2_with fail
  refine (HRa.out _).mono ?_
  rintro e w3 ⟨rfl, hb⟩
  have a0_3 := cell_call a0_2 hb
  have a1_3 := cell_call a1_2 hb
  have a2_3 := cell_call a2_2 hb
  have b0_3 := cell_call b0_2 hb
  have b1_3 := cell_call b1_2 hb
  have b2_3 := cell_call b2_2 hb
  have c0_3 := cell_call c0_2 hb
  have c1_3 := cell_call c1_2 hb
  have c2_3 := cell_call c2_2 hb
  have HB3 := Lib.hid (bt HB2.out hb)
  clear hb a0_2 a1_2 a2_2 b0_2 b1_2 b2_2 c0_2 c1_2 c2_2
  go_wp2_with fail
  refine (HRb.out _).mono ?_
  rintro e w4 ⟨rfl, hb⟩
  have a0_4 := cell_call a0_3 hb
  have a1_4 := cell_call a1_3 hb
  have a2_4 := cell_call a2_3 hb
  have b0_4 := cell_call b0_3 hb
  have b1_4 := cell_call b1_3 hb
  have b2_4 := cell_call b2_3 hb
  have c0_4 := cell_call c0_3 hb
  have c1_4 := cell_call c1_3 hb
  have c2_4 := cell_call c2_3 hb
  have HB4 := Lib.hid (bt HB3.out hb)
  clear hb a0_3 a1_3 a2_3 b0_3 b1_3 b2_3 c0_3 c1_3 c2_3
  go_wp2_with fail
  refine (HRc.out _).mono ?_
  rintro e w5 ⟨rfl, hb⟩
  have a0_5 := cell_call a0_4 hb
  have a1_5 := cell_call a1_4 hb
  have a2_5 := cell_call a2_4 hb
  have b0_5 := cell_call b0_4 hb
  have b1_5 := cell_call b1_4 hb
  have b2_5 := cell_call b2_4 hb
  have c0_5 := cell_call c0_4 hb
  have c1_5 := cell_call c1_4 hb
  have c2_5 := cell_call c2_4 hb
  have HB5 := Lib.hid (bt HB4.out hb)
  clear hb a0_4 a1_4 a2_4 b0_4 b1_4 b2_4 c0_4 c1_4 c2_4
  go_wp2_with (first | (at_builtin; refine wpList_want rfl fun K hK => ?_; refine wp_append_fresh _ _ rfl w5.heap.size w5.heap.size Ai ni ka xs rfl rfl (HII.out.below (ba HB5.out)) HXS.out (by have := HNI.out; omega) (heap_alloc_new _ _) (Nat.le_refl _) ?_; intro v6 w6 hown6 hb6; refine hK _ _ ?_; have HO6 := Lib.hid hown6; have HB6 := Lib.hid (bt (ba (Below.refl _ _)) hb6); clear hown6 hb6 hK) | (at_builtin; go_must (refine wpList_want rfl fun K hK => ?_); refine wp_append_items _ _ rfl w5.heap.size _ ni xs HO6.out (by have := HNI.out; omega) HB6.out.size Bi mi kb ys rfl rfl (HJJ.out.below (bt HB5.out HB6.out)) HYS.out (by have := HMI.out; omega) ?_; intro v7 w7 hown7 hb7; refine hK _ _ ?_; obtain ⟨A7, c7, rfl, hi7⟩ := irow_own hown7; have HI7 := Lib.hid hi7; have HB7 := Lib.hid (HB6.out.trans hb7); clear hown7 hi7 hb7 hK HO6))
  refine (HLD.out _ _ _ (bt HB5.out HB7.out) HI7.out).mono ?_
  rintro e w8 ⟨he, hb8⟩
  have a0_8 := cell_call (cell_call a0_5 HB7.out) hb8
  have a1_8 := cell_call (cell_call a1_5 HB7.out) hb8
  have a2_8 := cell_call (cell_call a2_5 HB7.out) hb8
  have b0_8 := cell_call (cell_call b0_5 HB7.out) hb8
  have b1_8 := cell_call (cell_call b1_5 HB7.out) hb8
  have b2_8 := cell_call (cell_call b2_5 HB7.out) hb8
  have c0_8 := cell_call (cell_call c0_5 HB7.out) hb8
  have c1_8 := cell_call (cell_call c1_5 HB7.out) hb8
  have c2_8 := cell_call (cell_call c2_5 HB7.out) hb8
  have HB8 := Lib.hid (bt (bt HB5.out HB7.out) hb8)
  clear hb8 HLD a0_5 a1_5 a2_5 b0_5 b1_5 b2_5 c0_5 c1_5 c2_5 HB7 HB6 HB5 HB4 HB3 HB2 HB1 HI7
  cases hok : (xs ++ ys).all okI with
  | false =>
    rw [hok] at he
    obtain rfl : e = _ := he
    go_wp2
    go_ret
    exact ⟨rfl, HB8.out⟩
  | true =>
    rw [hok] at he
    obtain ⟨sb, A, c', Al, cl, us, rfl, hS, hpl⟩ := he
    have HPL := Lib.hid hpl
    have HS := Lib.hid hS
    have hIO : ∀ x ∈ xs ++ ys, ItOk x := fun x hx => okI_ok (List.all_eq_true.1 hok x hx)
    have HIO := Lib.hid hIO
    clear hS hIO hpl
    obtain ⟨L, hLd⟩ : ∃ L, layL (plL us) 0 0 = L := ⟨_, rfl⟩
    have hrr : ∀ t ∈ plL us, t.right 0 = true := by
      intro t ht
      rw [plL_map] at ht
      obtain ⟨u, hu, rfl⟩ := List.mem_map.1 ht
      exact (HS.out.fine u hu).1
    have hen := layL_ok (plL us) hrr 0 0
    rw [hLd] at hen
    have HEN := Lib.hid hen
    have HST : Hid (∀ w1, Below w8.heap.size w8 w1 → StoreAt w1 sb 1000 A c' L) := Lib.hid fun w1 h1 => by rw [← hLd]; exact (HS.out.later h1).store
    have hln : L.length ≤ 1048576 := by
      rw [← hLd, layL_len]
      have h1 := HS.out.size
      have h2 : us.length ≤ 6 := by
        have h3 : (plL us).length = us.length := by rw [plL_map, List.length_map]
        rw [← h3, HPL.out]
        unfold laidT
        exact Nat.le_trans (List.length_filter_le _ _) (by rw [List.length_take]; exact Nat.min_le_left _ _)
      omega
    have HLN := Lib.hid hln
    clear hLd hrr hen hln HPL HS
    -- Match, of whatever row of these items
    have HMT : Hid (∀ (t : TT) (zs : List It) (A1 : Option Addr) (n1 c1 : Nat) (w1 : World), GT t → (∀ x ∈ zs, x ∈ xs ++ ys) → zs.length = n1 → n1 ≤ 1048576 → Below w8.heap.size w8 w1 → IRow6 w1 A1 zs → Calls Tryd.prog 13 #[.pointer (some ⟨sb, 0, none⟩), .agg #[.int .i64 (t.k.i : Nat), .string (ba' t.k.n), .int .i64 (t.o : Nat)], .slice A1 n1 c1] w1 fun e w' => e = .returned (.bool (fits (zs.map (kindI L)) t)) ∧ Below w1.heap.size w1 w') := Lib.hid fun t zs A1 n1 c1 w1 ht hz hn hn1 h1 hI => by
      have h := match_any (kindI L) sb t ht A1 c1 n1 zs hn hn1 w1 (HE.out.below (bt HB8.out h1)) hI (fun x hx => gt_kindI HEN.out (HIO.out x (hz x hx))) (Lib.hid fun x hx w2 h2 => kindI_any sb A c' L x (HIO.out x (hz x hx)) HEN.out HLN.out w2 (HST.out w2 (bt h1 h2)) (HK2.out.below (bt (bt HB8.out h1) h2)))
      rw [matchB_fits] at h
      exact h
    have HGK : Hid (∀ zs : List It, (∀ x ∈ zs, x ∈ xs ++ ys) → ∀ k ∈ zs.map (kindI L), GT k) := Lib.hid fun zs hz k hk => by
      obtain ⟨x, hx, rfl⟩ := List.mem_map.1 hk
      exact gt_kindI HEN.out (HIO.out x (hz x hx))
    obtain ⟨p, hp⟩ : ∃ p, fits (xs.map (kindI L)) a = p := ⟨_, rfl⟩
    obtain ⟨q, hq⟩ : ∃ q, fits (ys.map (kindI L)) b = q := ⟨_, rfl⟩
    have HP := Lib.hid hp; have HQ := Lib.hid hq
    have hx1 : ∀ x ∈ xs, x ∈ xs ++ ys := fun x hx => List.mem_append_left _ hx
    have hy1 : ∀ x ∈ ys, x ∈ xs ++ ys := fun x hx => List.mem_append_right _ hx
    have HX1 := Lib.hid hx1; have HY1 := Lib.hid hy1
    have M1 : Hid (∀ w1, Below w8.heap.size w8 w1 → Calls Tryd.prog 13 #[.pointer (some ⟨sb, 0, none⟩), .agg #[.int .i64 (ai : Nat), .string (ba' an), .int .i64 (ao : Nat)], .slice Ai ni ka] w1 fun e w' => e = .returned (.bool p) ∧ Below w1.heap.size w1 w') := Lib.hid fun w1 h1 => by
      have h := HMT.out a xs Ai ni ka w1 HGA.out HX1.out HXS.out (by have := HNI.out; omega) h1 (HII.out.below (bt HB8.out h1))
      rw [HP.out, HTA.out] at h
      exact h
    have M2 : Hid (∀ w1, Below w8.heap.size w8 w1 → Calls Tryd.prog 13 #[.pointer (some ⟨sb, 0, none⟩), .agg #[.int .i64 (bi : Nat), .string (ba' bn), .int .i64 (bo : Nat)], .slice Bi mi kb] w1 fun e w' => e = .returned (.bool q) ∧ Below w1.heap.size w1 w') := Lib.hid fun w1 h1 => by
      have h := HMT.out b ys Bi mi kb w1 HGB.out HY1.out HYS.out (by have := HMI.out; omega) h1 (HJJ.out.below (bt HB8.out h1))
      rw [HQ.out, HTB.out] at h
      exact h
    have M3 : Hid (p = true → s3 = true → ∀ w1, Below w8.heap.size w8 w1 → Calls Tryd.prog 13 #[.pointer (some ⟨sb, 0, none⟩), .agg #[.int .i64 (ci : Nat), .string (ba' cn), .int .i64 (co : Nat)], .slice Ai ni ka] w1 fun e w' => e = .returned (.bool true) ∧ Below w1.heap.size w1 w') := Lib.hid fun hpt hst w1 h1 => by
      have h := HMT.out c xs Ai ni ka w1 HGC.out HX1.out HXS.out (by have := HNI.out; omega) h1 (HII.out.below (bt HB8.out h1))
      rw [fits_sub (HGK.out xs HX1.out) HGA.out (HP.out.trans hpt) (HS3.out.trans hst), HTC.out] at h
      exact h
    have M4 : Hid (p = true → ∀ w1, Below w8.heap.size w8 w1 → Calls Tryd.prog 13 #[.pointer (some ⟨sb, 0, none⟩), .agg #[.int .i64 (ei : Nat), .string (ba' en), .int .i64 (eo : Nat)], .slice Ai ni ka] w1 fun e w' => e = .returned (.bool true) ∧ Below w1.heap.size w1 w') := Lib.hid fun hpt w1 h1 => by
      have h := HMT.out (eitherT [b, a]) xs Ai ni ka w1 (gt_eitherT HGB.out HGA.out) HX1.out HXS.out (by have := HNI.out; omega) h1 (HII.out.below (bt HB8.out h1))
      rw [fits_sub (HGK.out xs HX1.out) HGA.out (HP.out.trans hpt) (sub_either_right HGB.out HGA.out), HTE.out] at h
      exact h
    have M5 : Hid (p = true → q = true → ∀ w1 A1 c1, Below w8.heap.size w8 w1 → IRow6 w1 A1 (xs ++ ys) → Calls Tryd.prog 13 #[.pointer (some ⟨sb, 0, none⟩), .agg #[.int .i64 (ji : Nat), .string (ba' jn), .int .i64 (jo : Nat)], .slice A1 (ni + mi) c1] w1 fun e w' => e = .returned (.bool true) ∧ Below w1.heap.size w1 w') := Lib.hid fun hpt hqt w1 A1 c1 h1 hI => by
      have h := HMT.out (joinT [a, b]) (xs ++ ys) A1 (ni + mi) c1 w1 (gt_joinT HGA.out HGB.out) (fun _ h => h) (by rw [List.length_append, HXS.out, HYS.out]) (by have := HNI.out; have := HMI.out; omega) h1 hI
      rw [List.map_append, fits_join (HGK.out xs HX1.out) (HGK.out ys HY1.out) HGA.out HGB.out (HP.out.trans hpt) (HQ.out.trans hqt), HTJ.out] at h
      exact h
    clear hp hq hx1 hy1 HMT HGK HEN HLN HST HIO hok
    go_wp2
    refine Ho7_region ga gb gc sb ai ao an bi bo bn ci co cn pi po pn Ai Bi ni ka mi kb s1 s2 s3 HSS.out w8 rfl rfl rfl rfl rfl rfl rfl (Below.refl _ _) a0_8 a1_8 a2_8 b0_8 b1_8 b2_8 c0_8 c1_8 c2_8 (Lib.hid fun w1 h1 => S1.out w1 (bt HB8.out h1)) (Lib.hid fun w1 h1 => S2.out w1 (bt HB8.out h1)) (Lib.hid fun w1 h1 => S3.out w1 (bt HB8.out h1)) (Lib.hid fun w1 h1 => S4.out w1 (bt HB8.out h1)) (Lib.hid fun w1 h1 => S5.out w1 (bt HB8.out h1)) (Lib.hid fun w1 h1 => S6.out w1 (bt HB8.out h1)) (Lib.hid fun w1 g h1 hg hr => E1.out w1 g (bt HB8.out h1) hg hr) ?_
    intro X9 w9 k1 k2 k106 k_2 k_7 k_8 k_9 k_10 k_11 hb9
    have a0_9 := cell_call a0_8 hb9
    have a1_9 := cell_call a1_8 hb9
    have a2_9 := cell_call a2_8 hb9
    have b0_9 := cell_call b0_8 hb9
    have b1_9 := cell_call b1_8 hb9
    have b2_9 := cell_call b2_8 hb9
    have c0_9 := cell_call c0_8 hb9
    have c1_9 := cell_call c1_8 hb9
    have c2_9 := cell_call c2_8 hb9
    have HB9 := Lib.hid hb9
    clear hb9 a0_8 a1_8 a2_8 b0_8 b1_8 b2_8 c0_8 c1_8 c2_8 S1 S2 S4 S5 S6 E1
    go_wp2
    refine wp_cond_false k106 ?_
    go_wp2
    refine Ho9_region ga gb gc sb ai ao an bi bo bn ci co cn Ai Bi ni ka mi kb p q w9 k2 k_2 k_7 k_8 k_9 k_10 k_11 (Below.refl _ _) a0_9 a1_9 a2_9 b0_9 b1_9 b2_9 c0_9 c1_9 c2_9 (Lib.hid fun w1 h1 => M1.out w1 (bt HB9.out h1)) (Lib.hid fun w1 h1 => M2.out w1 (bt HB9.out h1)) ?_
    intro X10 w10 l1 l2 l_14 l_15 l_2 l_7 l_8 l_9 l_10 l_11 hb10
    have a0_10 := cell_call a0_9 hb10
    have a1_10 := cell_call a1_9 hb10
    have a2_10 := cell_call a2_9 hb10
    have b0_10 := cell_call b0_9 hb10
    have b1_10 := cell_call b1_9 hb10
    have b2_10 := cell_call b2_9 hb10
    have c0_10 := cell_call c0_9 hb10
    have c1_10 := cell_call c1_9 hb10
    have c2_10 := cell_call c2_9 hb10
    have HB10 := Lib.hid (bt HB9.out hb10)
    have l1' := l1.trans k1
    clear hb10 a0_9 a1_9 a2_9 b0_9 b1_9 b2_9 c0_9 c1_9 c2_9 M1 M2 k1 k2 k106 k_2 k_7 k_8 k_9 k_10 k_11 l1
    obtain ⟨tm, df⟩ := X10
    simp only at l1' l2 l_14 l_15 l_2 l_7 l_8 l_9 l_10 l_11
    subst l1'
    obtain ⟨u, hu, rfl⟩ := lit160 tm l2
    rw [hu] at l_14 l_15 l_2 l_7 l_8 l_9 l_10 l_11
    rw [l_14, l_15, l_2, l_7, l_8, l_9, l_10, l_11]
    clear l_14 l_15 l_2 l_7 l_8 l_9 l_10 l_11 l2 hu
    cases p with
    | false =>
      go_wp2
      go_ret
      exact ⟨rfl, bt HB8.out HB10.out⟩
    | true =>
      have M4' := Lib.hid (M4.out rfl)
      clear M4
      cases s3 with
      | false =>
        cases q with
        | false =>
          clear M3
          clear M5
          go_wp2_with fail
          refine (S3.out _ (bt HB8.out HB10.out)).mono ?_
          rintro e w11 ⟨rfl, hb⟩
          have a0_11 := cell_call a0_10 hb
          have a1_11 := cell_call a1_10 hb
          have a2_11 := cell_call a2_10 hb
          have b0_11 := cell_call b0_10 hb
          have b1_11 := cell_call b1_10 hb
          have b2_11 := cell_call b2_10 hb
          have c0_11 := cell_call c0_10 hb
          have c1_11 := cell_call c1_10 hb
          have c2_11 := cell_call c2_10 hb
          have HB11 := Lib.hid (bt HB10.out hb)
          clear hb a0_10 a1_10 a2_10 b0_10 b1_10 b2_10 c0_10 c1_10 c2_10
          go_wp2_with fail
          refine (E2.out _ _ (bt HB8.out (ba HB11.out)) (by simp) (row2_new w11 ⟨⟨bi, bn⟩, bo⟩ ⟨⟨ai, an⟩, ao⟩)).mono ?_
          rintro e w12 ⟨rfl, hb⟩
          have a0_12 := cell_call (cell_new a0_11) hb
          have a1_12 := cell_call (cell_new a1_11) hb
          have a2_12 := cell_call (cell_new a2_11) hb
          have b0_12 := cell_call (cell_new b0_11) hb
          have b1_12 := cell_call (cell_new b1_11) hb
          have b2_12 := cell_call (cell_new b2_11) hb
          have c0_12 := cell_call (cell_new c0_11) hb
          have c1_12 := cell_call (cell_new c1_11) hb
          have c2_12 := cell_call (cell_new c2_11) hb
          have HB12 := Lib.hid (bt (ba HB11.out) hb)
          clear hb a0_11 a1_11 a2_11 b0_11 b1_11 b2_11 c0_11 c1_11 c2_11
          go_wp2_with fail
          refine (M4'.out _ HB12.out).mono ?_
          rintro e w13 ⟨rfl, hb⟩
          have a0_13 := cell_call a0_12 hb
          have a1_13 := cell_call a1_12 hb
          have a2_13 := cell_call a2_12 hb
          have b0_13 := cell_call b0_12 hb
          have b1_13 := cell_call b1_12 hb
          have b2_13 := cell_call b2_12 hb
          have c0_13 := cell_call c0_12 hb
          have c1_13 := cell_call c1_12 hb
          have c2_13 := cell_call c2_12 hb
          have HB13 := Lib.hid (bt HB12.out hb)
          clear hb a0_12 a1_12 a2_12 b0_12 b1_12 b2_12 c0_12 c1_12 c2_12
          go_wp2
          go_ret
          exact ⟨rfl, bt HB8.out HB13.out⟩
        | true =>
          clear M3
          have M5' := Lib.hid (M5.out rfl rfl)
          clear M5
          go_wp2_with fail
          refine (S3.out _ (bt HB8.out HB10.out)).mono ?_
          rintro e w11 ⟨rfl, hb⟩
          have a0_11 := cell_call a0_10 hb
          have a1_11 := cell_call a1_10 hb
          have a2_11 := cell_call a2_10 hb
          have b0_11 := cell_call b0_10 hb
          have b1_11 := cell_call b1_10 hb
          have b2_11 := cell_call b2_10 hb
          have c0_11 := cell_call c0_10 hb
          have c1_11 := cell_call c1_10 hb
          have c2_11 := cell_call c2_10 hb
          have HB11 := Lib.hid (bt HB10.out hb)
          clear hb a0_10 a1_10 a2_10 b0_10 b1_10 b2_10 c0_10 c1_10 c2_10
          go_wp2_with fail
          refine (E2.out _ _ (bt HB8.out (ba HB11.out)) (by simp) (row2_new w11 ⟨⟨bi, bn⟩, bo⟩ ⟨⟨ai, an⟩, ao⟩)).mono ?_
          rintro e w12 ⟨rfl, hb⟩
          have a0_12 := cell_call (cell_new a0_11) hb
          have a1_12 := cell_call (cell_new a1_11) hb
          have a2_12 := cell_call (cell_new a2_11) hb
          have b0_12 := cell_call (cell_new b0_11) hb
          have b1_12 := cell_call (cell_new b1_11) hb
          have b2_12 := cell_call (cell_new b2_11) hb
          have c0_12 := cell_call (cell_new c0_11) hb
          have c1_12 := cell_call (cell_new c1_11) hb
          have c2_12 := cell_call (cell_new c2_11) hb
          have HB12 := Lib.hid (bt (ba HB11.out) hb)
          clear hb a0_11 a1_11 a2_11 b0_11 b1_11 b2_11 c0_11 c1_11 c2_11
          go_wp2_with fail
          refine (M4'.out _ HB12.out).mono ?_
          rintro e w13 ⟨rfl, hb⟩
          have a0_13 := cell_call a0_12 hb
          have a1_13 := cell_call a1_12 hb
          have a2_13 := cell_call a2_12 hb
          have b0_13 := cell_call b0_12 hb
          have b1_13 := cell_call b1_12 hb
          have b2_13 := cell_call b2_12 hb
          have c0_13 := cell_call c0_12 hb
          have c1_13 := cell_call c1_12 hb
          have c2_13 := cell_call c2_12 hb
          have HB13 := Lib.hid (bt HB12.out hb)
          clear hb a0_12 a1_12 a2_12 b0_12 b1_12 b2_12 c0_12 c1_12 c2_12
          go_wp2_with fail
          refine (J1.out _ _ (bt HB8.out (ba HB13.out)) (by simp) (row2_new w13 ⟨⟨ai, an⟩, ao⟩ ⟨⟨bi, bn⟩, bo⟩)).mono ?_
          rintro e w14 ⟨rfl, hb⟩
          have a0_14 := cell_call (cell_new a0_13) hb
          have a1_14 := cell_call (cell_new a1_13) hb
          have a2_14 := cell_call (cell_new a2_13) hb
          have b0_14 := cell_call (cell_new b0_13) hb
          have b1_14 := cell_call (cell_new b1_13) hb
          have b2_14 := cell_call (cell_new b2_13) hb
          have c0_14 := cell_call (cell_new c0_13) hb
          have c1_14 := cell_call (cell_new c1_13) hb
          have c2_14 := cell_call (cell_new c2_13) hb
          have HB14 := Lib.hid (bt (ba HB13.out) hb)
          clear hb a0_13 a1_13 a2_13 b0_13 b1_13 b2_13 c0_13 c1_13 c2_13
          clear a0_14 a1_14 a2_14 b0_14 b1_14 b2_14 c0_14 c1_14 c2_14
          go_wp2_with (first | (at_builtin; refine wpList_want rfl fun K hK => ?_; refine wp_append_fresh _ _ rfl w14.heap.size w14.heap.size Ai ni ka xs rfl rfl (HII.out.below (ba (bt HB8.out HB14.out))) HXS.out (by have := HNI.out; omega) (heap_alloc_new _ _) (Nat.le_refl _) ?_; intro v20 w20 hown6 hb6; refine hK _ _ ?_; have HO6 := Lib.hid hown6; have HB20 := Lib.hid (bt (ba (Below.refl _ _)) hb6); clear hown6 hb6 hK) | (at_builtin; go_must (refine wpList_want rfl fun K hK => ?_); refine wp_append_items _ _ rfl w14.heap.size _ ni xs HO6.out (by have := HNI.out; omega) HB20.out.size Bi mi kb ys rfl rfl (HJJ.out.below (bt (bt HB8.out HB14.out) HB20.out)) HYS.out (by have := HMI.out; omega) ?_; intro v7 w21 hown7 hb7; refine hK _ _ ?_; obtain ⟨A7, c7, rfl, hi7⟩ := irow_own hown7; have HI7 := Lib.hid hi7; have HB21 := Lib.hid (HB20.out.trans hb7); clear hown7 hi7 hb7 hK HO6))
          refine (M5'.out _ _ _ (bt HB14.out HB21.out) HI7.out).mono ?_
          rintro e w22 ⟨rfl, hb⟩
          have HB22 := Lib.hid (bt (bt HB14.out HB21.out) hb)
          clear hb
          go_wp2
          go_ret
          exact ⟨rfl, bt HB8.out HB22.out⟩
      | true =>
        cases q with
        | false =>
          have M3' := Lib.hid (M3.out rfl rfl)
          clear M3
          clear M5
          go_wp2_with fail
          refine (S3.out _ (bt HB8.out HB10.out)).mono ?_
          rintro e w11 ⟨rfl, hb⟩
          have a0_11 := cell_call a0_10 hb
          have a1_11 := cell_call a1_10 hb
          have a2_11 := cell_call a2_10 hb
          have b0_11 := cell_call b0_10 hb
          have b1_11 := cell_call b1_10 hb
          have b2_11 := cell_call b2_10 hb
          have c0_11 := cell_call c0_10 hb
          have c1_11 := cell_call c1_10 hb
          have c2_11 := cell_call c2_10 hb
          have HB11 := Lib.hid (bt HB10.out hb)
          clear hb a0_10 a1_10 a2_10 b0_10 b1_10 b2_10 c0_10 c1_10 c2_10
          go_wp2_with fail
          refine (M3'.out _ HB11.out).mono ?_
          rintro e w12 ⟨rfl, hb⟩
          have a0_12 := cell_call a0_11 hb
          have a1_12 := cell_call a1_11 hb
          have a2_12 := cell_call a2_11 hb
          have b0_12 := cell_call b0_11 hb
          have b1_12 := cell_call b1_11 hb
          have b2_12 := cell_call b2_11 hb
          have c0_12 := cell_call c0_11 hb
          have c1_12 := cell_call c1_11 hb
          have c2_12 := cell_call c2_11 hb
          have HB12 := Lib.hid (bt HB11.out hb)
          clear hb a0_11 a1_11 a2_11 b0_11 b1_11 b2_11 c0_11 c1_11 c2_11
          go_wp2_with fail
          refine (E2.out _ _ (bt HB8.out (ba HB12.out)) (by simp) (row2_new w12 ⟨⟨bi, bn⟩, bo⟩ ⟨⟨ai, an⟩, ao⟩)).mono ?_
          rintro e w13 ⟨rfl, hb⟩
          have a0_13 := cell_call (cell_new a0_12) hb
          have a1_13 := cell_call (cell_new a1_12) hb
          have a2_13 := cell_call (cell_new a2_12) hb
          have b0_13 := cell_call (cell_new b0_12) hb
          have b1_13 := cell_call (cell_new b1_12) hb
          have b2_13 := cell_call (cell_new b2_12) hb
          have c0_13 := cell_call (cell_new c0_12) hb
          have c1_13 := cell_call (cell_new c1_12) hb
          have c2_13 := cell_call (cell_new c2_12) hb
          have HB13 := Lib.hid (bt (ba HB12.out) hb)
          clear hb a0_12 a1_12 a2_12 b0_12 b1_12 b2_12 c0_12 c1_12 c2_12
          go_wp2_with fail
          refine (M4'.out _ HB13.out).mono ?_
          rintro e w14 ⟨rfl, hb⟩
          have a0_14 := cell_call a0_13 hb
          have a1_14 := cell_call a1_13 hb
          have a2_14 := cell_call a2_13 hb
          have b0_14 := cell_call b0_13 hb
          have b1_14 := cell_call b1_13 hb
          have b2_14 := cell_call b2_13 hb
          have c0_14 := cell_call c0_13 hb
          have c1_14 := cell_call c1_13 hb
          have c2_14 := cell_call c2_13 hb
          have HB14 := Lib.hid (bt HB13.out hb)
          clear hb a0_13 a1_13 a2_13 b0_13 b1_13 b2_13 c0_13 c1_13 c2_13
          go_wp2
          go_ret
          exact ⟨rfl, bt HB8.out HB14.out⟩
        | true =>
          have M3' := Lib.hid (M3.out rfl rfl)
          clear M3
          have M5' := Lib.hid (M5.out rfl rfl)
          clear M5
          go_wp2_with fail
          refine (S3.out _ (bt HB8.out HB10.out)).mono ?_
          rintro e w11 ⟨rfl, hb⟩
          have a0_11 := cell_call a0_10 hb
          have a1_11 := cell_call a1_10 hb
          have a2_11 := cell_call a2_10 hb
          have b0_11 := cell_call b0_10 hb
          have b1_11 := cell_call b1_10 hb
          have b2_11 := cell_call b2_10 hb
          have c0_11 := cell_call c0_10 hb
          have c1_11 := cell_call c1_10 hb
          have c2_11 := cell_call c2_10 hb
          have HB11 := Lib.hid (bt HB10.out hb)
          clear hb a0_10 a1_10 a2_10 b0_10 b1_10 b2_10 c0_10 c1_10 c2_10
          go_wp2_with fail
          refine (M3'.out _ HB11.out).mono ?_
          rintro e w12 ⟨rfl, hb⟩
          have a0_12 := cell_call a0_11 hb
          have a1_12 := cell_call a1_11 hb
          have a2_12 := cell_call a2_11 hb
          have b0_12 := cell_call b0_11 hb
          have b1_12 := cell_call b1_11 hb
          have b2_12 := cell_call b2_11 hb
          have c0_12 := cell_call c0_11 hb
          have c1_12 := cell_call c1_11 hb
          have c2_12 := cell_call c2_11 hb
          have HB12 := Lib.hid (bt HB11.out hb)
          clear hb a0_11 a1_11 a2_11 b0_11 b1_11 b2_11 c0_11 c1_11 c2_11
          go_wp2_with fail
          refine (E2.out _ _ (bt HB8.out (ba HB12.out)) (by simp) (row2_new w12 ⟨⟨bi, bn⟩, bo⟩ ⟨⟨ai, an⟩, ao⟩)).mono ?_
          rintro e w13 ⟨rfl, hb⟩
          have a0_13 := cell_call (cell_new a0_12) hb
          have a1_13 := cell_call (cell_new a1_12) hb
          have a2_13 := cell_call (cell_new a2_12) hb
          have b0_13 := cell_call (cell_new b0_12) hb
          have b1_13 := cell_call (cell_new b1_12) hb
          have b2_13 := cell_call (cell_new b2_12) hb
          have c0_13 := cell_call (cell_new c0_12) hb
          have c1_13 := cell_call (cell_new c1_12) hb
          have c2_13 := cell_call (cell_new c2_12) hb
          have HB13 := Lib.hid (bt (ba HB12.out) hb)
          clear hb a0_12 a1_12 a2_12 b0_12 b1_12 b2_12 c0_12 c1_12 c2_12
          go_wp2_with fail
          refine (M4'.out _ HB13.out).mono ?_
          rintro e w14 ⟨rfl, hb⟩
          have a0_14 := cell_call a0_13 hb
          have a1_14 := cell_call a1_13 hb
          have a2_14 := cell_call a2_13 hb
          have b0_14 := cell_call b0_13 hb
          have b1_14 := cell_call b1_13 hb
          have b2_14 := cell_call b2_13 hb
          have c0_14 := cell_call c0_13 hb
          have c1_14 := cell_call c1_13 hb
          have c2_14 := cell_call c2_13 hb
          have HB14 := Lib.hid (bt HB13.out hb)
          clear hb a0_13 a1_13 a2_13 b0_13 b1_13 b2_13 c0_13 c1_13 c2_13
          go_wp2_with fail
          refine (J1.out _ _ (bt HB8.out (ba HB14.out)) (by simp) (row2_new w14 ⟨⟨ai, an⟩, ao⟩ ⟨⟨bi, bn⟩, bo⟩)).mono ?_
          rintro e w15 ⟨rfl, hb⟩
          have a0_15 := cell_call (cell_new a0_14) hb
          have a1_15 := cell_call (cell_new a1_14) hb
          have a2_15 := cell_call (cell_new a2_14) hb
          have b0_15 := cell_call (cell_new b0_14) hb
          have b1_15 := cell_call (cell_new b1_14) hb
          have b2_15 := cell_call (cell_new b2_14) hb
          have c0_15 := cell_call (cell_new c0_14) hb
          have c1_15 := cell_call (cell_new c1_14) hb
          have c2_15 := cell_call (cell_new c2_14) hb
          have HB15 := Lib.hid (bt (ba HB14.out) hb)
          clear hb a0_14 a1_14 a2_14 b0_14 b1_14 b2_14 c0_14 c1_14 c2_14
          clear a0_15 a1_15 a2_15 b0_15 b1_15 b2_15 c0_15 c1_15 c2_15
          go_wp2_with (first | (at_builtin; refine wpList_want rfl fun K hK => ?_; refine wp_append_fresh _ _ rfl w15.heap.size w15.heap.size Ai ni ka xs rfl rfl (HII.out.below (ba (bt HB8.out HB15.out))) HXS.out (by have := HNI.out; omega) (heap_alloc_new _ _) (Nat.le_refl _) ?_; intro v20 w20 hown6 hb6; refine hK _ _ ?_; have HO6 := Lib.hid hown6; have HB20 := Lib.hid (bt (ba (Below.refl _ _)) hb6); clear hown6 hb6 hK) | (at_builtin; go_must (refine wpList_want rfl fun K hK => ?_); refine wp_append_items _ _ rfl w15.heap.size _ ni xs HO6.out (by have := HNI.out; omega) HB20.out.size Bi mi kb ys rfl rfl (HJJ.out.below (bt (bt HB8.out HB15.out) HB20.out)) HYS.out (by have := HMI.out; omega) ?_; intro v7 w21 hown7 hb7; refine hK _ _ ?_; obtain ⟨A7, c7, rfl, hi7⟩ := irow_own hown7; have HI7 := Lib.hid hi7; have HB21 := Lib.hid (HB20.out.trans hb7); clear hown7 hi7 hb7 hK HO6))
          refine (M5'.out _ _ _ (bt HB15.out HB21.out) HI7.out).mono ?_
          rintro e w22 ⟨rfl, hb⟩
          have HB22 := Lib.hid (bt (bt HB15.out HB21.out) hb)
          clear hb
          go_wp2
          go_ret
          exact ⟨rfl, bt HB8.out HB22.out⟩
end Go.Proofs.YtjpopmgnhgancaaDoor
namespace Go.Proofs.YtjpopmgnhgancaaDoor
open Go.RowKit Go.Lib
theorem hold_law (A0 : Option Addr) (cap0 nt : Nat) (ts : List Tr) (xi xo yi yo zi zo : Int) (xn yn zn : List UInt8) (Bi : Option Addr) (mi kb : Nat) (ys : List It) (Ai : Option Addr) (ni ka : Nat) (xs : List It) (w : World) (hT : tabs w) (hE : TE w) (hK : TK2 w) (hR : RdP (fun b => b < w.heap.size) w 5 A0 nt (rowT ts)) (hlen : ts.length = nt) (hin : ∀ t ∈ ts, t.In (fun b => b < w.heap.size) w) (hbk : ∀ t ∈ ts, t.pl.bulk ≤ 1048576)
    (hlx : xn.length ≤ 1099511627776) (hly : yn.length ≤ 1099511627776) (hlz : zn.length ≤ 1099511627776) (hxs : xs.length = ni) (hI : IRow6 w Ai xs) (hys : ys.length = mi) (hJ : IRow6 w Bi ys) (hsz : ∀ x ∈ xs ++ ys, x.s.size ≤ 1099511627776 ∧ -9223372036854775808 ≤ x.n ∧ x.n ≤ 9223372036854775807) :
    Calls Tryd.prog 5 #[.slice A0 nt cap0, .agg #[.int .i64 xi, .string (ba' xn), .int .i64 xo, .int .i64 yi, .string (ba' yn), .int .i64 yo, .int .i64 zi, .string (ba' zn), .int .i64 zo, .slice Bi mi kb], .slice Ai ni ka] w fun e w' => e = .returned (.bool true) ∧ Below w.heap.size w w' := by
  cases hx : rightB xi xn xo with
  | false => exact hold_no_a A0 cap0 nt xi xo yi yo zi zo xn yn zn Bi mi kb Ai ni ka w hE hlx hly hlz hx
  | true =>
    cases hy : rightB yi yn yo with
    | false => exact hold_no_b A0 cap0 nt xi xo yi yo zi zo xn yn zn Bi mi kb Ai ni ka w hE hlx hly hlz hx hy
    | true =>
      cases hz : rightB zi zn zo with
      | false => exact hold_no_c A0 cap0 nt xi xo yi yo zi zo xn yn zn Bi mi kb Ai ni ka w hE hlx hly hlz hx hy hz
      | true =>
        by_cases h1 : 50 < ni
        · exact hold_no_l A0 cap0 nt xi xo yi yo zi zo xn yn zn Bi mi kb Ai ni ka w hE hlx hly hlz hx hy hz h1
        · by_cases h2 : 50 < mi
          · exact hold_no_m A0 cap0 nt xi xo yi yo zi zo xn yn zn Bi mi kb Ai ni ka w hE hlx hly hlz hx hy hz h1 h2
          · obtain ⟨a, ga, rfl, rfl, rfl⟩ := right_gt hx
            obtain ⟨b, gb, rfl, rfl, rfl⟩ := right_gt hy
            obtain ⟨c, gc, rfl, rfl, rfl⟩ := right_gt hz
            exact hold_right a b c ga gb gc hlx hx hly hy hlz hz A0 cap0 nt ts Bi mi kb ys Ai ni ka xs w hT hE hK hR hlen hin hbk hxs (by omega) hI hys (by omega) hJ hsz
end Go.Proofs.YtjpopmgnhgancaaDoor
