/- The statement CmpTruths. No condition beyond what the theorems state. -/
import Derived.Test.YtemgabmafmehnaaGreatDoorLwRow4
import Derived.Test.YtemgabmafmehnaaGreatDoorLwWake4
namespace Go.Proofs.YtemgabmafmehnaaGreatDoor
open Go.Shelf Go.RowKit Go.Proofs.Wide Go.Proofs.Dig
set_option maxRecDepth 100000
set_option maxHeartbeats 8000000
theorem truths_no (f : Bool) (A : Option Addr) (n cap : Nat) (w : World) (hT : TT w) (HR2 : Hid (∀ w' : World, Below w.heap.size w w' → Calls Tryz.prog 35 #[.slice A n cap] w' fun e w'' => e = .returned (.bool false) ∧ Below w'.heap.size w' w'')) :
    Calls Tryz.prog 9 #[.bool f, .slice A n cap] w fun e w' => e = .returned (.bool true) ∧ Below w.heap.size w w' := by
  have HT := Lib.hid hT
  clear hT
  have WK := wake4
  go_enter Tryz.func9, Tryz.ntmps9
  go_wp2_with fail
  refine (WK.out.call HT.out (by repeat (with_reducible (first | exact Below.refl _ _ | assumption | apply ba | apply bd | apply bdr | (refine bs ?_ (by first | assumption | (simp; done) | (simp; omega))) | (refine bt ?_ (by assumption)))))).mono ?_
  rintro e w1 ⟨rfl, hb1⟩; have B1 : Below w.heap.size w w1 := (by repeat (with_reducible (first | exact Below.refl _ _ | assumption | apply ba | apply bd | apply bdr | (refine bs ?_ (by first | assumption | (simp; done) | (simp; omega))) | (refine bt ?_ (by assumption))))); have y1 := B1.size
  go_wp2_with fail
  refine (HR2.out _ (by repeat (with_reducible (first | exact Below.refl _ _ | assumption | apply ba | apply bd | apply bdr | (refine bs ?_ (by first | assumption | (simp; done) | (simp; omega))) | (refine bt ?_ (by assumption)))))).mono ?_
  rintro e w2 ⟨rfl, hb2⟩; have B2 : Below w.heap.size w w2 := (by repeat (with_reducible (first | exact Below.refl _ _ | assumption | apply ba | apply bd | apply bdr | (refine bs ?_ (by first | assumption | (simp; done) | (simp; omega))) | (refine bt ?_ (by assumption))))); have y2 := B2.size
  go_wp2_with fail
  refine (WK.out.call HT.out (by repeat (with_reducible (first | exact Below.refl _ _ | assumption | apply ba | apply bd | apply bdr | (refine bs ?_ (by first | assumption | (simp; done) | (simp; omega))) | (refine bt ?_ (by assumption)))))).mono ?_
  rintro e w3 ⟨rfl, hb3⟩; have B3 : Below w.heap.size w w3 := (by repeat (with_reducible (first | exact Below.refl _ _ | assumption | apply ba | apply bd | apply bdr | (refine bs ?_ (by first | assumption | (simp; done) | (simp; omega))) | (refine bt ?_ (by assumption))))); have y3 := B3.size
  go_wp2
  go_ret
  exact ⟨rfl, by repeat (with_reducible (first | exact Below.refl _ _ | assumption | apply ba | apply bd | apply bdr | (refine bs ?_ (by first | assumption | (simp; done) | (simp; omega))) | (refine bt ?_ (by assumption))))⟩
theorem truths_core (f : Bool) (A : Option Addr) (L : List R5) (n cap : Nat) (tv : Bool) (te : Int) (w : World) (hT : TT w) (hn : L.length = n) (hl : n ≤ 1048576) (hr : Reads w w.heap.size 5 A n (rowR L))
    (HR2 : Hid (∀ w' : World, Below w.heap.size w w' → Calls Tryz.prog 35 #[.slice A n cap] w' fun e w'' => e = .returned (.bool true) ∧ Below w'.heap.size w' w''))
    (H38 : Hid (∀ (g cp : Nat) (w' : World), RowG w' g L → g < w'.heap.size → Calls Tryz.prog 38 #[.bool f, .slice (some ⟨g, 0, none⟩) n cp] w' fun e w'' => e = .returned (.tuple #[.bool tv, .int .i64 te]) ∧ Below w'.heap.size w' w''))
    (H39 : Hid (∀ w' : World, Below w.heap.size w w' → Calls Tryz.prog 39 #[.bool f, .slice A n cap] w' fun e w'' => e = .returned (.tuple #[.bool tv, .int .i64 te]) ∧ Below w'.heap.size w' w'')) :
    Calls Tryz.prog 9 #[.bool f, .slice A n cap] w fun e w' => e = .returned (.bool true) ∧ Below w.heap.size w w' := by
  obtain ⟨i0, hi0, hz0, hz1, hz2⟩ := info_parts atom_info
  have HT := Lib.hid hT
  clear hT
  have WK := wake4
  have HRD := Lib.hid hr
  have HN := Lib.hid hn
  clear hr hn
  go_enter Tryz.func9, Tryz.ntmps9
  go_wp2_with fail
  refine (WK.out.call HT.out (by repeat (with_reducible (first | exact Below.refl _ _ | assumption | apply ba | apply bd | apply bdr | (refine bs ?_ (by first | assumption | (simp; done) | (simp; omega))) | (refine bt ?_ (by assumption)))))).mono ?_
  rintro e w1 ⟨rfl, hb1⟩; have B1 : Below w.heap.size w w1 := (by repeat (with_reducible (first | exact Below.refl _ _ | assumption | apply ba | apply bd | apply bdr | (refine bs ?_ (by first | assumption | (simp; done) | (simp; omega))) | (refine bt ?_ (by assumption))))); have y1 := B1.size
  go_wp2_with fail
  refine (HR2.out _ (by repeat (with_reducible (first | exact Below.refl _ _ | assumption | apply ba | apply bd | apply bdr | (refine bs ?_ (by first | assumption | (simp; done) | (simp; omega))) | (refine bt ?_ (by assumption)))))).mono ?_
  rintro e w2 ⟨rfl, hb2⟩; have B2 : Below w.heap.size w w2 := (by repeat (with_reducible (first | exact Below.refl _ _ | assumption | apply ba | apply bd | apply bdr | (refine bs ?_ (by first | assumption | (simp; done) | (simp; omega))) | (refine bt ?_ (by assumption))))); have y2 := B2.size
  go_wp2_with (first
    | (refine wpList_build_empty5 rfl rfl ?_)
    | (at_builtin
       refine wpList_append_any _ rfl (.tmp 19) (.tmp 20) _ rfl w2.heap.size 24 i0 _ 5 48 Tryz.underlying55 hi0 hz0 hz1 hz2 rfl (by omega) (.slice (some ⟨w2.heap.size, 0, none⟩) 0 0) 0 [] rfl
         ⟨by simp, .inr ⟨w2.heap.size, 0, #[], rfl, Nat.le_refl _, heap_alloc_new w2 _, by omega, by simp [maxLen], rfl, rfl⟩⟩ w.heap.size A n cap (rowR L) rfl ((HRD.out.below B2).alloc y2 _) (rowR_one _) (by simp only [maxLen]; omega) (by omega) (by simp) ?_
       intro v1 w3 hown hg hat
       have hbw : Below w2.heap.size w2 w3 := ((Below.refl _ _).alloc (Nat.le_refl _) _).grown hg (by simp) (by simp [Value.ownBlock])
       obtain ⟨g, cp, rfl, hgb, hgl, hN⟩ := row_owned (L := L) (n := n) (by simpa using hown) (by rcases hat with e | e <;> rw [e] <;> simp [Value.ownBlock])
       have HG := Lib.hid hN
       have B3 : Below w.heap.size w w3 := bt B2 hbw
       clear hown hg hat hN)
    | (go_at_call 38; go_must (refine (H38.out g cp w3 HG.out hgl).mono ?_); rintro e w4 ⟨rfl, hb4⟩; have B4 : Below w.heap.size w w4 := bt B3 hb4)
    | (go_at_call 39; go_must (refine (H39.out w4 B4).mono ?_); rintro e w5 ⟨rfl, hb5⟩; have B5 : Below w.heap.size w w5 := bt B4 hb5))
  go_ret
  exact ⟨by first | rfl | exact ret_bool (by simp), by repeat (with_reducible (first | exact Below.refl _ _ | assumption | apply ba | apply bd | apply bdr | (refine bs ?_ (by first | assumption | (simp; done) | (simp; omega))) | (refine bt ?_ (by assumption))))⟩
theorem av_fields {r : R5} {a : AV} (h : r.v = a.v) : r.k = a.kind ∧ r.n = a.fn ∧ r.c = a.fc ∧ ba' r.l = a.fs ∧ r.b = a.fb := by
  rw [v_eq] at h
  unfold R5.v at h
  simp at h
  exact ⟨h.1, h.2.1, h.2.2.1, h.2.2.2.1, h.2.2.2.2⟩
/-- What the reference counts a value as. -/
theorem ref_counts (a : AV) (ad : Addr) (cap : Nat) (w : World) (h0 : w.cell? ad = some (.int .i64 a.kind)) (h1 : w.cell? {block := ad.block, off := ad.off + 1} = some (.int .i64 a.fn)) (h2 : w.cell? {block := ad.block, off := ad.off + 2} = some (.int .i64 a.fc))
    (h3 : w.cell? {block := ad.block, off := ad.off + 3} = some (.string a.fs)) (h4 : w.cell? {block := ad.block, off := ad.off + 4} = some (.bool a.fb)) (hb : ad.block < w.heap.size) :
    Calls Tryz.prog 39 #[.bool false, .slice (some ad) 1 cap] w fun e w' => e = .returned (.tuple #[.bool (countsZ a), .int .i64 0]) ∧ Below w.heap.size w w' := by
  cases a with
  | int n => exact refTruth_1 ad cap n 0 ⟨#[]⟩ false w h0 h1 h2 h3 h4 hb
  | dec n c => exact refTruth_2 ad cap n c ⟨#[]⟩ false w h0 h1 h2 h3 h4 hb
  | str l => exact refTruth_3 ad cap 0 0 (ba' l) false _ w h0 h1 h2 h3 h4 hb (by rw [toList_ba]; rfl)
  | boo b => exact refTruth_4 ad cap 0 0 ⟨#[]⟩ b w h0 h1 h2 h3 h4 hb
  | raw l => exact refTruth_5 ad cap 0 0 (ba' l) false _ w h0 h1 h2 h3 h4 hb (by rw [toList_ba]; rfl)
theorem truths_law (f : Bool) (A : Option Addr) (L : List R5) (n cap : Nat) (w : World) (hT : TT w) (hn : L.length = n) (hl : n ≤ 1048576) (hr : Reads w w.heap.size 5 A n (rowR L)) (hb : ∀ r ∈ L, InI r.n ∧ InI r.c ∧ r.l.length ≤ 1048576) :
    Calls Tryz.prog 9 #[.bool f, .slice A n cap] w fun e w' => e = .returned (.bool true) ∧ Below w.heap.size w w' := by
  have hR : ∀ w' : World, Below w.heap.size w w' → Calls Tryz.prog 35 #[.slice A n cap] w' fun e w'' => e = .returned (.bool (L.all R5.ok)) ∧ Below w'.heap.size w' w'' := fun w' hb' =>
    rights_any L A n cap w' hn ((hr.below hb').more hb'.size) hb hl
  cases hall : L.all R5.ok with
  | false =>
    rw [hall] at hR
    exact truths_no f A n cap w hT (Lib.hid hR)
  | true =>
    rw [hall] at hR
    cases f with
    | true => exact truths_core true A L n cap true 0 w hT hn hl hr (Lib.hid hR) (Lib.hid fun g cp w' _ _ => truth_first _ _ _ w') (Lib.hid fun w' _ => refTruth_first _ _ _ w')
    | false =>
      rcases (by omega : n = 0 ∨ n = 1 ∨ 2 ≤ n) with rfl | rfl | h2
      · exact truths_core false A L 0 cap false 0 w hT hn hl hr (Lib.hid hR) (Lib.hid fun g cp w' _ _ => truth_none _ _ w') (Lib.hid fun w' _ => refTruth_none _ _ w')
      · obtain ⟨r, rfl⟩ := List.length_eq_one_iff.1 hn
        obtain ⟨a, ha, e⟩ : r.good := R5.good_of (List.all_eq_true.1 hall r (by simp))
        obtain ⟨f1, f2, f3, f4, f5⟩ := av_fields e
        refine truths_core false A [r] 1 cap (countsZ a) 0 w hT hn hl hr (Lib.hid hR) (Lib.hid fun g cp w' hg hlt => ?_) (Lib.hid fun w' hb' => ?_)
        · obtain ⟨c0, c1, c2, c3, c4⟩ := hg 0 r rfl
          rw [f1] at c0; rw [f2] at c1; rw [f3] at c2; rw [f4] at c3; rw [f5] at c4
          exact truth_one a g cp w' c0 c1 c2 c3 c4
        · obtain ⟨ad, rfl, hblk, hcell⟩ := hr.2 (by omega)
          have cl : ∀ o u, r.cells[o]? = some u → o < 5 → w'.cell? (ad.add o) = some u := fun o u hu ho => by
            have h1 := rowR_at [r] 0 r o u rfl hu ho
            rw [Nat.zero_mul, Nat.zero_add] at h1
            exact (hb'.cell (by rw [block_of_add]; exact hblk)).trans (hcell _ _ h1)
          have c0 := cl 0 _ rfl (by decide)
          have c1 := cl 1 _ rfl (by decide)
          have c2 := cl 2 _ rfl (by decide)
          have c3 := cl 3 _ rfl (by decide)
          have c4 := cl 4 _ rfl (by decide)
          have off : ∀ o, 0 < o → ad.add o = {block := ad.block, off := ad.off + o} := fun o ho => by unfold Addr.add; simp; omega
          rw [off 1 (by decide), f2] at c1
          rw [off 2 (by decide), f3] at c2
          rw [off 3 (by decide), f4] at c3
          rw [off 4 (by decide), f5] at c4
          rw [show ad.add 0 = ad from by unfold Addr.add; simp, f1] at c0
          exact ref_counts a ad cap w' c0 c1 c2 c3 c4 (Nat.lt_of_lt_of_le hblk hb'.size)
      · exact truths_core false A L n cap false 51 w hT hn hl hr (Lib.hid hR) (Lib.hid fun g cp w' _ _ => truth_many _ _ _ w' (by omega)) (Lib.hid fun w' _ => refTruth_many _ _ _ w' (by omega))
end Go.Proofs.YtemgabmafmehnaaGreatDoor
