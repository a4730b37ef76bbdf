/- The statement CmpGenerals. No condition beyond what the theorems state. -/
import Derived.Test.YtemgabmafmehnaaGreatDoorCmRefGeneral
import Derived.Test.YtemgabmafmehnaaGreatDoorLwWake4
namespace Go.Proofs.YtemgabmafmehnaaGreatDoor
open Go.Shelf Go.RowKit Go.Proofs.Wide Go.Proofs.Dig
set_option maxRecDepth 100000
set_option maxHeartbeats 16000000
theorem RowG.call {w w' : World} {g : Nat} {L : List R5} (h : RowG w g L) (hg : g < w.heap.size) (hb : Below w.heap.size w w') : RowG w' g L := fun i r hr => by
  obtain ⟨c0, c1, c2, c3, c4⟩ := h i r hr
  exact ⟨(hb.cell hg).trans c0, (hb.cell hg).trans c1, (hb.cell hg).trans c2, (hb.cell hg).trans c3, (hb.cell hg).trans c4⟩
theorem generals_big1 (op : Int) (A B : Option Addr) (n m ca cb : Nat) (w : World) (hT : TT w) (e1 : decide ((100 : Int) < (n : Int)) = true) :
    Calls Tryz.prog 8 #[.int .i64 op, .slice A n ca, .slice B m cb] w fun e w' => e = .returned (.bool true) ∧ Below w.heap.size w w' := by
  have HT := Lib.hid hT
  clear hT
  have WK := wake4
  go_enter Tryz.func8, Tryz.ntmps8
  go_wp2_with fail
  refine (WK.out.call HT.out (by repeat (with_reducible (first | exact Below.refl _ _ | assumption | apply ba | apply bd | apply bdr | (refine bs ?_ (by first | assumption | (simp; done) | (simp; omega))) | (refine bt ?_ (by assumption)))))).mono ?_
  rintro e w1 ⟨rfl, hb1⟩; have B1 : Below w.heap.size w w1 := (by repeat (with_reducible (first | exact Below.refl _ _ | assumption | apply ba | apply bd | apply bdr | (refine bs ?_ (by first | assumption | (simp; done) | (simp; omega))) | (refine bt ?_ (by assumption))))); have y1 := B1.size
  go_wp2_with fail
  refine (WK.out.call HT.out (by repeat (with_reducible (first | exact Below.refl _ _ | assumption | apply ba | apply bd | apply bdr | (refine bs ?_ (by first | assumption | (simp; done) | (simp; omega))) | (refine bt ?_ (by assumption)))))).mono ?_
  rintro e w2 ⟨rfl, hb2⟩; have B2 : Below w.heap.size w w2 := (by repeat (with_reducible (first | exact Below.refl _ _ | assumption | apply ba | apply bd | apply bdr | (refine bs ?_ (by first | assumption | (simp; done) | (simp; omega))) | (refine bt ?_ (by assumption))))); have y2 := B2.size
  go_wp2
  go_ret
  exact ⟨rfl, by repeat (with_reducible (first | exact Below.refl _ _ | assumption | apply ba | apply bd | apply bdr | (refine bs ?_ (by first | assumption | (simp; done) | (simp; omega))) | (refine bt ?_ (by assumption))))⟩
theorem generals_big2 (op : Int) (A B : Option Addr) (n m ca cb : Nat) (w : World) (hT : TT w) (e1 : decide ((100 : Int) < (n : Int)) = false) (e2 : decide ((100 : Int) < (m : Int)) = true) :
    Calls Tryz.prog 8 #[.int .i64 op, .slice A n ca, .slice B m cb] w fun e w' => e = .returned (.bool true) ∧ Below w.heap.size w w' := by
  have HT := Lib.hid hT
  clear hT
  have WK := wake4
  go_enter Tryz.func8, Tryz.ntmps8
  go_wp2_with fail
  refine (WK.out.call HT.out (by repeat (with_reducible (first | exact Below.refl _ _ | assumption | apply ba | apply bd | apply bdr | (refine bs ?_ (by first | assumption | (simp; done) | (simp; omega))) | (refine bt ?_ (by assumption)))))).mono ?_
  rintro e w1 ⟨rfl, hb1⟩; have B1 : Below w.heap.size w w1 := (by repeat (with_reducible (first | exact Below.refl _ _ | assumption | apply ba | apply bd | apply bdr | (refine bs ?_ (by first | assumption | (simp; done) | (simp; omega))) | (refine bt ?_ (by assumption))))); have y1 := B1.size
  go_wp2_with fail
  refine (WK.out.call HT.out (by repeat (with_reducible (first | exact Below.refl _ _ | assumption | apply ba | apply bd | apply bdr | (refine bs ?_ (by first | assumption | (simp; done) | (simp; omega))) | (refine bt ?_ (by assumption)))))).mono ?_
  rintro e w2 ⟨rfl, hb2⟩; have B2 : Below w.heap.size w w2 := (by repeat (with_reducible (first | exact Below.refl _ _ | assumption | apply ba | apply bd | apply bdr | (refine bs ?_ (by first | assumption | (simp; done) | (simp; omega))) | (refine bt ?_ (by assumption))))); have y2 := B2.size
  go_wp2
  go_ret
  exact ⟨rfl, by repeat (with_reducible (first | exact Below.refl _ _ | assumption | apply ba | apply bd | apply bdr | (refine bs ?_ (by first | assumption | (simp; done) | (simp; omega))) | (refine bt ?_ (by assumption))))⟩
theorem generals_no1 (op : Int) (A B : Option Addr) (n m ca cb : Nat) (w : World) (hT : TT w) (e1 : decide ((100 : Int) < (n : Int)) = false) (e2 : decide ((100 : Int) < (m : Int)) = false) (HA : Hid (∀ w' : World, Below w.heap.size w w' → Calls Tryz.prog 35 #[.slice A n ca] w' fun e w'' => e = .returned (.bool false) ∧ Below w'.heap.size w' w'')) :
    Calls Tryz.prog 8 #[.int .i64 op, .slice A n ca, .slice B m cb] w fun e w' => e = .returned (.bool true) ∧ Below w.heap.size w w' := by
  have HT := Lib.hid hT
  clear hT
  have WK := wake4
  go_enter Tryz.func8, Tryz.ntmps8
  go_wp2_with fail
  refine (WK.out.call HT.out (by repeat (with_reducible (first | exact Below.refl _ _ | assumption | apply ba | apply bd | apply bdr | (refine bs ?_ (by first | assumption | (simp; done) | (simp; omega))) | (refine bt ?_ (by assumption)))))).mono ?_
  rintro e w1 ⟨rfl, hb1⟩; have B1 : Below w.heap.size w w1 := (by repeat (with_reducible (first | exact Below.refl _ _ | assumption | apply ba | apply bd | apply bdr | (refine bs ?_ (by first | assumption | (simp; done) | (simp; omega))) | (refine bt ?_ (by assumption))))); have y1 := B1.size
  go_wp2_with fail
  refine (HA.out _ (by repeat (with_reducible (first | exact Below.refl _ _ | assumption | apply ba | apply bd | apply bdr | (refine bs ?_ (by first | assumption | (simp; done) | (simp; omega))) | (refine bt ?_ (by assumption)))))).mono ?_
  rintro e w2 ⟨rfl, hb2⟩; have B2 : Below w.heap.size w w2 := (by repeat (with_reducible (first | exact Below.refl _ _ | assumption | apply ba | apply bd | apply bdr | (refine bs ?_ (by first | assumption | (simp; done) | (simp; omega))) | (refine bt ?_ (by assumption))))); have y2 := B2.size
  go_wp2_with fail
  refine (WK.out.call HT.out (by repeat (with_reducible (first | exact Below.refl _ _ | assumption | apply ba | apply bd | apply bdr | (refine bs ?_ (by first | assumption | (simp; done) | (simp; omega))) | (refine bt ?_ (by assumption)))))).mono ?_
  rintro e w3 ⟨rfl, hb3⟩; have B3 : Below w.heap.size w w3 := (by repeat (with_reducible (first | exact Below.refl _ _ | assumption | apply ba | apply bd | apply bdr | (refine bs ?_ (by first | assumption | (simp; done) | (simp; omega))) | (refine bt ?_ (by assumption))))); have y3 := B3.size
  go_wp2
  go_ret
  exact ⟨rfl, by repeat (with_reducible (first | exact Below.refl _ _ | assumption | apply ba | apply bd | apply bdr | (refine bs ?_ (by first | assumption | (simp; done) | (simp; omega))) | (refine bt ?_ (by assumption))))⟩
theorem generals_no2 (op : Int) (A B : Option Addr) (n m ca cb : Nat) (w : World) (hT : TT w) (e1 : decide ((100 : Int) < (n : Int)) = false) (e2 : decide ((100 : Int) < (m : Int)) = false) (HA : Hid (∀ w' : World, Below w.heap.size w w' → Calls Tryz.prog 35 #[.slice A n ca] w' fun e w'' => e = .returned (.bool true) ∧ Below w'.heap.size w' w'')) (HB : Hid (∀ w' : World, Below w.heap.size w w' → Calls Tryz.prog 35 #[.slice B m cb] w' fun e w'' => e = .returned (.bool false) ∧ Below w'.heap.size w' w'')) :
    Calls Tryz.prog 8 #[.int .i64 op, .slice A n ca, .slice B m cb] w fun e w' => e = .returned (.bool true) ∧ Below w.heap.size w w' := by
  have HT := Lib.hid hT
  clear hT
  have WK := wake4
  go_enter Tryz.func8, Tryz.ntmps8
  go_wp2_with fail
  refine (WK.out.call HT.out (by repeat (with_reducible (first | exact Below.refl _ _ | assumption | apply ba | apply bd | apply bdr | (refine bs ?_ (by first | assumption | (simp; done) | (simp; omega))) | (refine bt ?_ (by assumption)))))).mono ?_
  rintro e w1 ⟨rfl, hb1⟩; have B1 : Below w.heap.size w w1 := (by repeat (with_reducible (first | exact Below.refl _ _ | assumption | apply ba | apply bd | apply bdr | (refine bs ?_ (by first | assumption | (simp; done) | (simp; omega))) | (refine bt ?_ (by assumption))))); have y1 := B1.size
  go_wp2_with fail
  refine (HA.out _ (by repeat (with_reducible (first | exact Below.refl _ _ | assumption | apply ba | apply bd | apply bdr | (refine bs ?_ (by first | assumption | (simp; done) | (simp; omega))) | (refine bt ?_ (by assumption)))))).mono ?_
  rintro e w2 ⟨rfl, hb2⟩; have B2 : Below w.heap.size w w2 := (by repeat (with_reducible (first | exact Below.refl _ _ | assumption | apply ba | apply bd | apply bdr | (refine bs ?_ (by first | assumption | (simp; done) | (simp; omega))) | (refine bt ?_ (by assumption))))); have y2 := B2.size
  go_wp2_with fail
  refine (HB.out _ (by repeat (with_reducible (first | exact Below.refl _ _ | assumption | apply ba | apply bd | apply bdr | (refine bs ?_ (by first | assumption | (simp; done) | (simp; omega))) | (refine bt ?_ (by assumption)))))).mono ?_
  rintro e w3 ⟨rfl, hb3⟩; have B3 : Below w.heap.size w w3 := (by repeat (with_reducible (first | exact Below.refl _ _ | assumption | apply ba | apply bd | apply bdr | (refine bs ?_ (by first | assumption | (simp; done) | (simp; omega))) | (refine bt ?_ (by assumption))))); have y3 := B3.size
  go_wp2_with fail
  refine (WK.out.call HT.out (by repeat (with_reducible (first | exact Below.refl _ _ | assumption | apply ba | apply bd | apply bdr | (refine bs ?_ (by first | assumption | (simp; done) | (simp; omega))) | (refine bt ?_ (by assumption)))))).mono ?_
  rintro e w4 ⟨rfl, hb4⟩; have B4 : Below w.heap.size w w4 := (by repeat (with_reducible (first | exact Below.refl _ _ | assumption | apply ba | apply bd | apply bdr | (refine bs ?_ (by first | assumption | (simp; done) | (simp; omega))) | (refine bt ?_ (by assumption))))); have y4 := B4.size
  go_wp2
  go_ret
  exact ⟨rfl, by repeat (with_reducible (first | exact Below.refl _ _ | assumption | apply ba | apply bd | apply bdr | (refine bs ?_ (by first | assumption | (simp; done) | (simp; omega))) | (refine bt ?_ (by assumption))))⟩
theorem generals_low (Lx Ly : List R5) (op : Int) (A B : Option Addr) (n m ca cb : Nat) (w : World) (hT : TT w) (e1 : decide ((100 : Int) < (n : Int)) = false) (e2 : decide ((100 : Int) < (m : Int)) = false) (HA : Hid (∀ w' : World, Below w.heap.size w w' → Calls Tryz.prog 35 #[.slice A n ca] w' fun e w'' => e = .returned (.bool true) ∧ Below w'.heap.size w' w'')) (HB : Hid (∀ w' : World, Below w.heap.size w w' → Calls Tryz.prog 35 #[.slice B m cb] w' fun e w'' => e = .returned (.bool true) ∧ Below w'.heap.size w' w'')) (hn : Lx.length = n) (_hm : Ly.length = m) (hn6 : n ≤ 1048576) (hm6 : m ≤ 1048576) (HRA : Hid (Reads w w.heap.size 5 A n (rowR Lx))) (HRB : Hid (Reads w w.heap.size 5 B m (rowR Ly))) (HG : Hid (∀ (g h c d : Nat) (w' : World), Below w.heap.size w w' → RowG w' g Lx → RowG w' h Ly → g < w'.heap.size → h < w'.heap.size → Calls Tryz.prog 36 #[.int .i64 op, .slice (some ⟨g, 0, none⟩) n c, .slice (some ⟨h, 0, none⟩) m d] w' fun e w'' => e = .returned (.tuple #[.bool false, .int .i64 2]) ∧ Below w'.heap.size w' w'')) (o1 : decide (op < 19) = true) :
    Calls Tryz.prog 8 #[.int .i64 op, .slice A n ca, .slice B m cb] w fun e w' => e = .returned (.bool true) ∧ Below w.heap.size w w' := by
  obtain ⟨i0, hi0, hz0, hz1, hz2⟩ := info_parts atom_info
  have HN := Lib.hid hn
  clear hn _hm
  have HT := Lib.hid hT
  clear hT
  have WK := wake4
  go_enter Tryz.func8, Tryz.ntmps8
  go_wp2_with fail
  refine (WK.out.call HT.out (by repeat (with_reducible (first | exact Below.refl _ _ | assumption | apply ba | apply bd | apply bdr | (refine bs ?_ (by first | assumption | (simp; done) | (simp; omega))) | (refine bt ?_ (by assumption)))))).mono ?_
  rintro e w1 ⟨rfl, hb1⟩; have B1 : Below w.heap.size w w1 := (by repeat (with_reducible (first | exact Below.refl _ _ | assumption | apply ba | apply bd | apply bdr | (refine bs ?_ (by first | assumption | (simp; done) | (simp; omega))) | (refine bt ?_ (by assumption))))); have y1 := B1.size
  go_wp2_with fail
  refine (HA.out _ (by repeat (with_reducible (first | exact Below.refl _ _ | assumption | apply ba | apply bd | apply bdr | (refine bs ?_ (by first | assumption | (simp; done) | (simp; omega))) | (refine bt ?_ (by assumption)))))).mono ?_
  rintro e w2 ⟨rfl, hb2⟩; have B2 : Below w.heap.size w w2 := (by repeat (with_reducible (first | exact Below.refl _ _ | assumption | apply ba | apply bd | apply bdr | (refine bs ?_ (by first | assumption | (simp; done) | (simp; omega))) | (refine bt ?_ (by assumption))))); have y2 := B2.size
  go_wp2_with fail
  refine (HB.out _ (by repeat (with_reducible (first | exact Below.refl _ _ | assumption | apply ba | apply bd | apply bdr | (refine bs ?_ (by first | assumption | (simp; done) | (simp; omega))) | (refine bt ?_ (by assumption)))))).mono ?_
  rintro e w3 ⟨rfl, hb3⟩; have B3 : Below w.heap.size w w3 := (by repeat (with_reducible (first | exact Below.refl _ _ | assumption | apply ba | apply bd | apply bdr | (refine bs ?_ (by first | assumption | (simp; done) | (simp; omega))) | (refine bt ?_ (by assumption))))); have y3 := B3.size
  go_wp2_with (first
    | (refine wpList_build_empty5 rfl rfl ?_)
    | (at_builtin
       refine wpList_append_any _ rfl (.tmp 37) (.tmp 38) _ rfl w3.heap.size 24 i0 _ 5 48 Tryz.underlying55 hi0 hz0 hz1 hz2 rfl (by omega) (.slice (some ⟨w3.heap.size, 0, none⟩) 0 0) 0 [] rfl
         ⟨by simp, .inr ⟨w3.heap.size, 0, #[], rfl, Nat.le_refl _, heap_alloc_new w3 _, by omega, by simp [maxLen], rfl, rfl⟩⟩ w.heap.size A n ca (rowR Lx) rfl ((HRA.out.below B3).alloc y3 _) (rowR_one _) (by simp only [maxLen]; omega) (by omega) (by simp) ?_
       intro vw4 w4 hown hg hat
       have hbw4 : Below w3.heap.size w3 w4 := ((Below.refl _ _).alloc (Nat.le_refl _) _).grown hg (by simp) (by simp [Value.ownBlock])
       obtain ⟨g, cg, rfl, hgbg, lg, hN⟩ := row_owned (L := Lx) (n := n) (by simpa using hown) (by rcases hat with e | e <;> rw [e] <;> simp [Value.ownBlock])
       have HX := Lib.hid hN
       have B4 : Below w.heap.size w w4 := bt B3 hbw4
       have yw4 := B4.size
       clear hown hg hat hN)
    | (at_builtin
       refine wpList_append_any _ rfl (.tmp 40) (.tmp 41) _ rfl w4.heap.size 24 i0 _ 5 48 Tryz.underlying55 hi0 hz0 hz1 hz2 rfl (by omega) (.slice (some ⟨w4.heap.size, 0, none⟩) 0 0) 0 [] rfl
         ⟨by simp, .inr ⟨w4.heap.size, 0, #[], rfl, Nat.le_refl _, heap_alloc_new w4 _, by omega, by simp [maxLen], rfl, rfl⟩⟩ w.heap.size B m cb (rowR Ly) rfl ((HRB.out.below B4).alloc yw4 _) (rowR_one _) (by simp only [maxLen]; omega) (by omega) (by simp) ?_
       intro vw5 w5 hown hg hat
       have hbw5 : Below w4.heap.size w4 w5 := ((Below.refl _ _).alloc (Nat.le_refl _) _).grown hg (by simp) (by simp [Value.ownBlock])
       obtain ⟨h, ch, rfl, hgbh, lh, hN⟩ := row_owned (L := Ly) (n := m) (by simpa using hown) (by rcases hat with e | e <;> rw [e] <;> simp [Value.ownBlock])
       have HY := Lib.hid hN
       have B5 : Below w.heap.size w w5 := bt B4 hbw5
       have yw5 := B5.size
       clear hown hg hat hN)
    | (go_at_call 36; go_must (refine (HG.out g h cg ch w5 B5 (HX.out.call lg hbw5) HY.out (Nat.lt_of_lt_of_le lg hbw5.size) lh).mono ?_); rintro e w6 ⟨rfl, hb6⟩; have B6 : Below w.heap.size w w6 := bt B5 hb6; have HX6 := Lib.hid ((HX.out.call lg hbw5).call (Nat.lt_of_lt_of_le lg hbw5.size) hb6); have lg6 : g < w6.heap.size := Nat.lt_of_lt_of_le (Nat.lt_of_lt_of_le lg hbw5.size) hb6.size; clear HX HY))
  go_loopw [11] (fun s11 wx => ∃ i : Nat, s11 = .int .i64 i ∧ i ≤ n ∧ Below w.heap.size w wx ∧ Below w6.heap.size w6 wx) (fun s11 _ => n - (intOf s11).toNat)
  case atStart => exact ⟨0, rfl, Nat.zero_le _, by repeat (with_reducible (first | exact Below.refl _ _ | assumption | apply ba | apply bd | apply bdr | (refine bs ?_ (by first | assumption | (simp; done) | (simp; omega))) | (refine bt ?_ (by assumption)))), Below.refl _ _⟩
  case round =>
    obtain ⟨i, rfl, hi, hBy, hB6⟩ := hrel
    by_cases hlt : i < n
    · have hiL : i < Lx.length := by rw [HN.out]; exact hlt
      obtain ⟨r, hr⟩ : ∃ r, Lx[i]? = some r := ⟨_, List.getElem?_eq_getElem hiL⟩
      obtain ⟨adA, rfl, hblkA, hcellA⟩ := HRA.out.2 (by omega)
      have cc0 : w.cell? (adA.add (i * 5 + 0)) = some (.int .i64 r.k) := hcellA _ _ (rowR_at Lx i r 0 _ hr rfl (by decide))
      have cc1 : w.cell? (adA.add (i * 5 + 1)) = some (.int .i64 r.n) := hcellA _ _ (rowR_at Lx i r 1 _ hr rfl (by decide))
      have cc2 : w.cell? (adA.add (i * 5 + 2)) = some (.int .i64 r.c) := hcellA _ _ (rowR_at Lx i r 2 _ hr rfl (by decide))
      have cc3 : w.cell? (adA.add (i * 5 + 3)) = some (.string (ba' r.l)) := hcellA _ _ (rowR_at Lx i r 3 _ hr rfl (by decide))
      have cc4 : w.cell? (adA.add (i * 5 + 4)) = some (.bool r.b) := hcellA _ _ (rowR_at Lx i r 4 _ hr rfl (by decide))
      have dA0 : wr.cell? (adA.add (i * 5)) = some (.int .i64 r.k) := (hBy.cell (by rw [block_of_add]; exact hblkA)).trans cc0
      have dA1 : wr.cell? {block := (adA.add (i * 5)).block, off := (adA.add (i * 5)).off + 1} = some (.int .i64 r.n) := by rw [add_off _ _ _ (by decide)]; exact (hBy.cell (by rw [block_of_add]; exact hblkA)).trans cc1
      have dA2 : wr.cell? {block := (adA.add (i * 5)).block, off := (adA.add (i * 5)).off + 2} = some (.int .i64 r.c) := by rw [add_off _ _ _ (by decide)]; exact (hBy.cell (by rw [block_of_add]; exact hblkA)).trans cc2
      have dA3 : wr.cell? {block := (adA.add (i * 5)).block, off := (adA.add (i * 5)).off + 3} = some (.string (ba' r.l)) := by rw [add_off _ _ _ (by decide)]; exact (hBy.cell (by rw [block_of_add]; exact hblkA)).trans cc3
      have dA4 : wr.cell? {block := (adA.add (i * 5)).block, off := (adA.add (i * 5)).off + 4} = some (.bool r.b) := by rw [add_off _ _ _ (by decide)]; exact (hBy.cell (by rw [block_of_add]; exact hblkA)).trans cc4
      have lA : (adA.add (i * 5)).block < wr.heap.size := by rw [block_of_add]; exact Nat.lt_of_lt_of_le hblkA hBy.size
      clear cc0 cc1 cc2 cc3 cc4
      obtain ⟨x0, x1, x2, x3, x4⟩ := HX6.out i r hr
      have g0 : wr.cell? ⟨g, i * 5, none⟩ = some (.int .i64 r.k) := (hB6.cell lg6).trans x0
      have g1 : wr.cell? ⟨g, i * 5 + 1, none⟩ = some (.int .i64 r.n) := (hB6.cell lg6).trans x1
      have g2 : wr.cell? ⟨g, i * 5 + 2, none⟩ = some (.int .i64 r.c) := (hB6.cell lg6).trans x2
      have g3 : wr.cell? ⟨g, i * 5 + 3, none⟩ = some (.string (ba' r.l)) := (hB6.cell lg6).trans x3
      have g4 : wr.cell? ⟨g, i * 5 + 4, none⟩ = some (.bool r.b) := (hB6.cell lg6).trans x4
      have hl1 : decide ((i : Int) < (n : Int)) = true := by first | (simp; done) | (simp; omega)
      clear hr hiL x0 x1 x2 x3 x4 hcellA
      go_wp2
      go_region_held3 (fun w' => w'.cell? (adA.add (i * 5)) = some (.int .i64 r.k) ∧ w'.cell? {block := (adA.add (i * 5)).block, off := (adA.add (i * 5)).off + 1} = some (.int .i64 r.n) ∧ w'.cell? {block := (adA.add (i * 5)).block, off := (adA.add (i * 5)).off + 2} = some (.int .i64 r.c) ∧ w'.cell? {block := (adA.add (i * 5)).block, off := (adA.add (i * 5)).off + 3} = some (.string (ba' r.l)) ∧ w'.cell? {block := (adA.add (i * 5)).block, off := (adA.add (i * 5)).off + 4} = some (.bool r.b) ∧ w'.cell? ⟨g, i * 5, none⟩ = some (.int .i64 r.k) ∧ w'.cell? ⟨g, i * 5 + 1, none⟩ = some (.int .i64 r.n) ∧ w'.cell? ⟨g, i * 5 + 2, none⟩ = some (.int .i64 r.c) ∧ w'.cell? ⟨g, i * 5 + 3, none⟩ = some (.string (ba' r.l)) ∧ w'.cell? ⟨g, i * 5 + 4, none⟩ = some (.bool r.b) ∧ Below w.heap.size w w' ∧ Below w6.heap.size w6 w')
        (first | (go_keep; done) | ((repeat' apply And.intro) <;> first | assumption | repeat (with_reducible (first | exact Below.refl _ _ | assumption | apply ba | apply bd | apply bdr | (refine bs ?_ (by first | assumption | (simp; done) | (simp; omega))) | (refine bt ?_ (by assumption))))))
        (first
          | fail)
      all_goals go_wp2
      all_goals go_roundw
      case rel => exact ⟨i + 1, by go_num, by omega, by repeat (with_reducible (first | exact Below.refl _ _ | assumption | apply ba | apply bd | apply bdr | (refine bs ?_ (by first | assumption | (simp; done) | (simp; omega))) | (refine bt ?_ (by assumption)))), by repeat (with_reducible (first | exact Below.refl _ _ | assumption | apply ba | apply bd | apply bdr | (refine bs ?_ (by first | assumption | (simp; done) | (simp; omega))) | (refine bt ?_ (by assumption))))⟩
      case measure => simp [intOf]; omega
    · obtain rfl : i = n := by omega
      have hl1 : decide (((i : Nat) : Int) < ((i : Nat) : Int)) = false := by simp
      go_wp2
      go_ret
      exact ⟨by first | rfl | exact ret_bool (by simp [*]), by repeat (with_reducible (first | exact Below.refl _ _ | assumption | apply ba | apply bd | apply bdr | (refine bs ?_ (by first | assumption | (simp; done) | (simp; omega))) | (refine bt ?_ (by assumption))))⟩
theorem generals_high (Lx Ly : List R5) (op : Int) (A B : Option Addr) (n m ca cb : Nat) (w : World) (hT : TT w) (e1 : decide ((100 : Int) < (n : Int)) = false) (e2 : decide ((100 : Int) < (m : Int)) = false) (HA : Hid (∀ w' : World, Below w.heap.size w w' → Calls Tryz.prog 35 #[.slice A n ca] w' fun e w'' => e = .returned (.bool true) ∧ Below w'.heap.size w' w'')) (HB : Hid (∀ w' : World, Below w.heap.size w w' → Calls Tryz.prog 35 #[.slice B m cb] w' fun e w'' => e = .returned (.bool true) ∧ Below w'.heap.size w' w'')) (hn : Lx.length = n) (_hm : Ly.length = m) (hn6 : n ≤ 1048576) (hm6 : m ≤ 1048576) (HRA : Hid (Reads w w.heap.size 5 A n (rowR Lx))) (HRB : Hid (Reads w w.heap.size 5 B m (rowR Ly))) (HG : Hid (∀ (g h c d : Nat) (w' : World), Below w.heap.size w w' → RowG w' g Lx → RowG w' h Ly → g < w'.heap.size → h < w'.heap.size → Calls Tryz.prog 36 #[.int .i64 op, .slice (some ⟨g, 0, none⟩) n c, .slice (some ⟨h, 0, none⟩) m d] w' fun e w'' => e = .returned (.tuple #[.bool false, .int .i64 2]) ∧ Below w'.heap.size w' w'')) (o1 : decide (op < 19) = false) (o2 : decide (24 < op) = true) :
    Calls Tryz.prog 8 #[.int .i64 op, .slice A n ca, .slice B m cb] w fun e w' => e = .returned (.bool true) ∧ Below w.heap.size w w' := by
  obtain ⟨i0, hi0, hz0, hz1, hz2⟩ := info_parts atom_info
  have HN := Lib.hid hn
  clear hn _hm
  have HT := Lib.hid hT
  clear hT
  have WK := wake4
  go_enter Tryz.func8, Tryz.ntmps8
  go_wp2_with fail
  refine (WK.out.call HT.out (by repeat (with_reducible (first | exact Below.refl _ _ | assumption | apply ba | apply bd | apply bdr | (refine bs ?_ (by first | assumption | (simp; done) | (simp; omega))) | (refine bt ?_ (by assumption)))))).mono ?_
  rintro e w1 ⟨rfl, hb1⟩; have B1 : Below w.heap.size w w1 := (by repeat (with_reducible (first | exact Below.refl _ _ | assumption | apply ba | apply bd | apply bdr | (refine bs ?_ (by first | assumption | (simp; done) | (simp; omega))) | (refine bt ?_ (by assumption))))); have y1 := B1.size
  go_wp2_with fail
  refine (HA.out _ (by repeat (with_reducible (first | exact Below.refl _ _ | assumption | apply ba | apply bd | apply bdr | (refine bs ?_ (by first | assumption | (simp; done) | (simp; omega))) | (refine bt ?_ (by assumption)))))).mono ?_
  rintro e w2 ⟨rfl, hb2⟩; have B2 : Below w.heap.size w w2 := (by repeat (with_reducible (first | exact Below.refl _ _ | assumption | apply ba | apply bd | apply bdr | (refine bs ?_ (by first | assumption | (simp; done) | (simp; omega))) | (refine bt ?_ (by assumption))))); have y2 := B2.size
  go_wp2_with fail
  refine (HB.out _ (by repeat (with_reducible (first | exact Below.refl _ _ | assumption | apply ba | apply bd | apply bdr | (refine bs ?_ (by first | assumption | (simp; done) | (simp; omega))) | (refine bt ?_ (by assumption)))))).mono ?_
  rintro e w3 ⟨rfl, hb3⟩; have B3 : Below w.heap.size w w3 := (by repeat (with_reducible (first | exact Below.refl _ _ | assumption | apply ba | apply bd | apply bdr | (refine bs ?_ (by first | assumption | (simp; done) | (simp; omega))) | (refine bt ?_ (by assumption))))); have y3 := B3.size
  go_wp2_with (first
    | (refine wpList_build_empty5 rfl rfl ?_)
    | (at_builtin
       refine wpList_append_any _ rfl (.tmp 37) (.tmp 38) _ rfl w3.heap.size 24 i0 _ 5 48 Tryz.underlying55 hi0 hz0 hz1 hz2 rfl (by omega) (.slice (some ⟨w3.heap.size, 0, none⟩) 0 0) 0 [] rfl
         ⟨by simp, .inr ⟨w3.heap.size, 0, #[], rfl, Nat.le_refl _, heap_alloc_new w3 _, by omega, by simp [maxLen], rfl, rfl⟩⟩ w.heap.size A n ca (rowR Lx) rfl ((HRA.out.below B3).alloc y3 _) (rowR_one _) (by simp only [maxLen]; omega) (by omega) (by simp) ?_
       intro vw4 w4 hown hg hat
       have hbw4 : Below w3.heap.size w3 w4 := ((Below.refl _ _).alloc (Nat.le_refl _) _).grown hg (by simp) (by simp [Value.ownBlock])
       obtain ⟨g, cg, rfl, hgbg, lg, hN⟩ := row_owned (L := Lx) (n := n) (by simpa using hown) (by rcases hat with e | e <;> rw [e] <;> simp [Value.ownBlock])
       have HX := Lib.hid hN
       have B4 : Below w.heap.size w w4 := bt B3 hbw4
       have yw4 := B4.size
       clear hown hg hat hN)
    | (at_builtin
       refine wpList_append_any _ rfl (.tmp 40) (.tmp 41) _ rfl w4.heap.size 24 i0 _ 5 48 Tryz.underlying55 hi0 hz0 hz1 hz2 rfl (by omega) (.slice (some ⟨w4.heap.size, 0, none⟩) 0 0) 0 [] rfl
         ⟨by simp, .inr ⟨w4.heap.size, 0, #[], rfl, Nat.le_refl _, heap_alloc_new w4 _, by omega, by simp [maxLen], rfl, rfl⟩⟩ w.heap.size B m cb (rowR Ly) rfl ((HRB.out.below B4).alloc yw4 _) (rowR_one _) (by simp only [maxLen]; omega) (by omega) (by simp) ?_
       intro vw5 w5 hown hg hat
       have hbw5 : Below w4.heap.size w4 w5 := ((Below.refl _ _).alloc (Nat.le_refl _) _).grown hg (by simp) (by simp [Value.ownBlock])
       obtain ⟨h, ch, rfl, hgbh, lh, hN⟩ := row_owned (L := Ly) (n := m) (by simpa using hown) (by rcases hat with e | e <;> rw [e] <;> simp [Value.ownBlock])
       have HY := Lib.hid hN
       have B5 : Below w.heap.size w w5 := bt B4 hbw5
       have yw5 := B5.size
       clear hown hg hat hN)
    | (go_at_call 36; go_must (refine (HG.out g h cg ch w5 B5 (HX.out.call lg hbw5) HY.out (Nat.lt_of_lt_of_le lg hbw5.size) lh).mono ?_); rintro e w6 ⟨rfl, hb6⟩; have B6 : Below w.heap.size w w6 := bt B5 hb6; have HX6 := Lib.hid ((HX.out.call lg hbw5).call (Nat.lt_of_lt_of_le lg hbw5.size) hb6); have lg6 : g < w6.heap.size := Nat.lt_of_lt_of_le (Nat.lt_of_lt_of_le lg hbw5.size) hb6.size; clear HX HY))
  go_loopw [11] (fun s11 wx => ∃ i : Nat, s11 = .int .i64 i ∧ i ≤ n ∧ Below w.heap.size w wx ∧ Below w6.heap.size w6 wx) (fun s11 _ => n - (intOf s11).toNat)
  case atStart => exact ⟨0, rfl, Nat.zero_le _, by repeat (with_reducible (first | exact Below.refl _ _ | assumption | apply ba | apply bd | apply bdr | (refine bs ?_ (by first | assumption | (simp; done) | (simp; omega))) | (refine bt ?_ (by assumption)))), Below.refl _ _⟩
  case round =>
    obtain ⟨i, rfl, hi, hBy, hB6⟩ := hrel
    by_cases hlt : i < n
    · have hiL : i < Lx.length := by rw [HN.out]; exact hlt
      obtain ⟨r, hr⟩ : ∃ r, Lx[i]? = some r := ⟨_, List.getElem?_eq_getElem hiL⟩
      obtain ⟨adA, rfl, hblkA, hcellA⟩ := HRA.out.2 (by omega)
      have cc0 : w.cell? (adA.add (i * 5 + 0)) = some (.int .i64 r.k) := hcellA _ _ (rowR_at Lx i r 0 _ hr rfl (by decide))
      have cc1 : w.cell? (adA.add (i * 5 + 1)) = some (.int .i64 r.n) := hcellA _ _ (rowR_at Lx i r 1 _ hr rfl (by decide))
      have cc2 : w.cell? (adA.add (i * 5 + 2)) = some (.int .i64 r.c) := hcellA _ _ (rowR_at Lx i r 2 _ hr rfl (by decide))
      have cc3 : w.cell? (adA.add (i * 5 + 3)) = some (.string (ba' r.l)) := hcellA _ _ (rowR_at Lx i r 3 _ hr rfl (by decide))
      have cc4 : w.cell? (adA.add (i * 5 + 4)) = some (.bool r.b) := hcellA _ _ (rowR_at Lx i r 4 _ hr rfl (by decide))
      have dA0 : wr.cell? (adA.add (i * 5)) = some (.int .i64 r.k) := (hBy.cell (by rw [block_of_add]; exact hblkA)).trans cc0
      have dA1 : wr.cell? {block := (adA.add (i * 5)).block, off := (adA.add (i * 5)).off + 1} = some (.int .i64 r.n) := by rw [add_off _ _ _ (by decide)]; exact (hBy.cell (by rw [block_of_add]; exact hblkA)).trans cc1
      have dA2 : wr.cell? {block := (adA.add (i * 5)).block, off := (adA.add (i * 5)).off + 2} = some (.int .i64 r.c) := by rw [add_off _ _ _ (by decide)]; exact (hBy.cell (by rw [block_of_add]; exact hblkA)).trans cc2
      have dA3 : wr.cell? {block := (adA.add (i * 5)).block, off := (adA.add (i * 5)).off + 3} = some (.string (ba' r.l)) := by rw [add_off _ _ _ (by decide)]; exact (hBy.cell (by rw [block_of_add]; exact hblkA)).trans cc3
      have dA4 : wr.cell? {block := (adA.add (i * 5)).block, off := (adA.add (i * 5)).off + 4} = some (.bool r.b) := by rw [add_off _ _ _ (by decide)]; exact (hBy.cell (by rw [block_of_add]; exact hblkA)).trans cc4
      have lA : (adA.add (i * 5)).block < wr.heap.size := by rw [block_of_add]; exact Nat.lt_of_lt_of_le hblkA hBy.size
      clear cc0 cc1 cc2 cc3 cc4
      obtain ⟨x0, x1, x2, x3, x4⟩ := HX6.out i r hr
      have g0 : wr.cell? ⟨g, i * 5, none⟩ = some (.int .i64 r.k) := (hB6.cell lg6).trans x0
      have g1 : wr.cell? ⟨g, i * 5 + 1, none⟩ = some (.int .i64 r.n) := (hB6.cell lg6).trans x1
      have g2 : wr.cell? ⟨g, i * 5 + 2, none⟩ = some (.int .i64 r.c) := (hB6.cell lg6).trans x2
      have g3 : wr.cell? ⟨g, i * 5 + 3, none⟩ = some (.string (ba' r.l)) := (hB6.cell lg6).trans x3
      have g4 : wr.cell? ⟨g, i * 5 + 4, none⟩ = some (.bool r.b) := (hB6.cell lg6).trans x4
      have hl1 : decide ((i : Int) < (n : Int)) = true := by first | (simp; done) | (simp; omega)
      clear hr hiL x0 x1 x2 x3 x4 hcellA
      go_wp2
      go_region_held3 (fun w' => w'.cell? (adA.add (i * 5)) = some (.int .i64 r.k) ∧ w'.cell? {block := (adA.add (i * 5)).block, off := (adA.add (i * 5)).off + 1} = some (.int .i64 r.n) ∧ w'.cell? {block := (adA.add (i * 5)).block, off := (adA.add (i * 5)).off + 2} = some (.int .i64 r.c) ∧ w'.cell? {block := (adA.add (i * 5)).block, off := (adA.add (i * 5)).off + 3} = some (.string (ba' r.l)) ∧ w'.cell? {block := (adA.add (i * 5)).block, off := (adA.add (i * 5)).off + 4} = some (.bool r.b) ∧ w'.cell? ⟨g, i * 5, none⟩ = some (.int .i64 r.k) ∧ w'.cell? ⟨g, i * 5 + 1, none⟩ = some (.int .i64 r.n) ∧ w'.cell? ⟨g, i * 5 + 2, none⟩ = some (.int .i64 r.c) ∧ w'.cell? ⟨g, i * 5 + 3, none⟩ = some (.string (ba' r.l)) ∧ w'.cell? ⟨g, i * 5 + 4, none⟩ = some (.bool r.b) ∧ Below w.heap.size w w' ∧ Below w6.heap.size w6 w')
        (first | (go_keep; done) | ((repeat' apply And.intro) <;> first | assumption | repeat (with_reducible (first | exact Below.refl _ _ | assumption | apply ba | apply bd | apply bdr | (refine bs ?_ (by first | assumption | (simp; done) | (simp; omega))) | (refine bt ?_ (by assumption))))))
        (first
          | fail)
      all_goals go_wp2
      all_goals go_roundw
      case rel => exact ⟨i + 1, by go_num, by omega, by repeat (with_reducible (first | exact Below.refl _ _ | assumption | apply ba | apply bd | apply bdr | (refine bs ?_ (by first | assumption | (simp; done) | (simp; omega))) | (refine bt ?_ (by assumption)))), by repeat (with_reducible (first | exact Below.refl _ _ | assumption | apply ba | apply bd | apply bdr | (refine bs ?_ (by first | assumption | (simp; done) | (simp; omega))) | (refine bt ?_ (by assumption))))⟩
      case measure => simp [intOf]; omega
    · obtain rfl : i = n := by omega
      have hl1 : decide (((i : Nat) : Int) < ((i : Nat) : Int)) = false := by simp
      go_wp2
      go_ret
      exact ⟨by first | rfl | exact ret_bool (by simp [*]), by repeat (with_reducible (first | exact Below.refl _ _ | assumption | apply ba | apply bd | apply bdr | (refine bs ?_ (by first | assumption | (simp; done) | (simp; omega))) | (refine bt ?_ (by assumption))))⟩
theorem generals_in (Lx Ly : List R5) (rb : Bool) (re : Int) (op : Int) (A B : Option Addr) (n m ca cb : Nat) (w : World) (hT : TT w) (e1 : decide ((100 : Int) < (n : Int)) = false) (e2 : decide ((100 : Int) < (m : Int)) = false) (HA : Hid (∀ w' : World, Below w.heap.size w w' → Calls Tryz.prog 35 #[.slice A n ca] w' fun e w'' => e = .returned (.bool true) ∧ Below w'.heap.size w' w'')) (HB : Hid (∀ w' : World, Below w.heap.size w w' → Calls Tryz.prog 35 #[.slice B m cb] w' fun e w'' => e = .returned (.bool true) ∧ Below w'.heap.size w' w'')) (hn : Lx.length = n) (_hm : Ly.length = m) (hn6 : n ≤ 1048576) (hm6 : m ≤ 1048576) (HRA : Hid (Reads w w.heap.size 5 A n (rowR Lx))) (HRB : Hid (Reads w w.heap.size 5 B m (rowR Ly))) (HG : Hid (∀ (g h c d : Nat) (w' : World), Below w.heap.size w w' → RowG w' g Lx → RowG w' h Ly → g < w'.heap.size → h < w'.heap.size → Calls Tryz.prog 36 #[.int .i64 op, .slice (some ⟨g, 0, none⟩) n c, .slice (some ⟨h, 0, none⟩) m d] w' fun e w'' => e = .returned (.tuple #[.bool rb, .int .i64 re]) ∧ Below w'.heap.size w' w'')) (o1 : decide (op < 19) = false) (o2 : decide (24 < op) = false) (HF : Hid (∀ w' : World, Below w.heap.size w w' → Calls Tryz.prog 37 #[.int .i64 (wrap64 (op - 19)), .slice A n ca, .slice B m cb] w' fun e w'' => e = .returned (.tuple #[.bool rb, .int .i64 re]) ∧ Below w'.heap.size w' w'')) :
    Calls Tryz.prog 8 #[.int .i64 op, .slice A n ca, .slice B m cb] w fun e w' => e = .returned (.bool true) ∧ Below w.heap.size w w' := by
  obtain ⟨i0, hi0, hz0, hz1, hz2⟩ := info_parts atom_info
  have HN := Lib.hid hn
  clear hn _hm
  have HT := Lib.hid hT
  clear hT
  have WK := wake4
  go_enter Tryz.func8, Tryz.ntmps8
  go_wp2_with fail
  refine (WK.out.call HT.out (by repeat (with_reducible (first | exact Below.refl _ _ | assumption | apply ba | apply bd | apply bdr | (refine bs ?_ (by first | assumption | (simp; done) | (simp; omega))) | (refine bt ?_ (by assumption)))))).mono ?_
  rintro e w1 ⟨rfl, hb1⟩; have B1 : Below w.heap.size w w1 := (by repeat (with_reducible (first | exact Below.refl _ _ | assumption | apply ba | apply bd | apply bdr | (refine bs ?_ (by first | assumption | (simp; done) | (simp; omega))) | (refine bt ?_ (by assumption))))); have y1 := B1.size
  go_wp2_with fail
  refine (HA.out _ (by repeat (with_reducible (first | exact Below.refl _ _ | assumption | apply ba | apply bd | apply bdr | (refine bs ?_ (by first | assumption | (simp; done) | (simp; omega))) | (refine bt ?_ (by assumption)))))).mono ?_
  rintro e w2 ⟨rfl, hb2⟩; have B2 : Below w.heap.size w w2 := (by repeat (with_reducible (first | exact Below.refl _ _ | assumption | apply ba | apply bd | apply bdr | (refine bs ?_ (by first | assumption | (simp; done) | (simp; omega))) | (refine bt ?_ (by assumption))))); have y2 := B2.size
  go_wp2_with fail
  refine (HB.out _ (by repeat (with_reducible (first | exact Below.refl _ _ | assumption | apply ba | apply bd | apply bdr | (refine bs ?_ (by first | assumption | (simp; done) | (simp; omega))) | (refine bt ?_ (by assumption)))))).mono ?_
  rintro e w3 ⟨rfl, hb3⟩; have B3 : Below w.heap.size w w3 := (by repeat (with_reducible (first | exact Below.refl _ _ | assumption | apply ba | apply bd | apply bdr | (refine bs ?_ (by first | assumption | (simp; done) | (simp; omega))) | (refine bt ?_ (by assumption))))); have y3 := B3.size
  go_wp2_with (first
    | (refine wpList_build_empty5 rfl rfl ?_)
    | (at_builtin
       refine wpList_append_any _ rfl (.tmp 37) (.tmp 38) _ rfl w3.heap.size 24 i0 _ 5 48 Tryz.underlying55 hi0 hz0 hz1 hz2 rfl (by omega) (.slice (some ⟨w3.heap.size, 0, none⟩) 0 0) 0 [] rfl
         ⟨by simp, .inr ⟨w3.heap.size, 0, #[], rfl, Nat.le_refl _, heap_alloc_new w3 _, by omega, by simp [maxLen], rfl, rfl⟩⟩ w.heap.size A n ca (rowR Lx) rfl ((HRA.out.below B3).alloc y3 _) (rowR_one _) (by simp only [maxLen]; omega) (by omega) (by simp) ?_
       intro vw4 w4 hown hg hat
       have hbw4 : Below w3.heap.size w3 w4 := ((Below.refl _ _).alloc (Nat.le_refl _) _).grown hg (by simp) (by simp [Value.ownBlock])
       obtain ⟨g, cg, rfl, hgbg, lg, hN⟩ := row_owned (L := Lx) (n := n) (by simpa using hown) (by rcases hat with e | e <;> rw [e] <;> simp [Value.ownBlock])
       have HX := Lib.hid hN
       have B4 : Below w.heap.size w w4 := bt B3 hbw4
       have yw4 := B4.size
       clear hown hg hat hN)
    | (at_builtin
       refine wpList_append_any _ rfl (.tmp 40) (.tmp 41) _ rfl w4.heap.size 24 i0 _ 5 48 Tryz.underlying55 hi0 hz0 hz1 hz2 rfl (by omega) (.slice (some ⟨w4.heap.size, 0, none⟩) 0 0) 0 [] rfl
         ⟨by simp, .inr ⟨w4.heap.size, 0, #[], rfl, Nat.le_refl _, heap_alloc_new w4 _, by omega, by simp [maxLen], rfl, rfl⟩⟩ w.heap.size B m cb (rowR Ly) rfl ((HRB.out.below B4).alloc yw4 _) (rowR_one _) (by simp only [maxLen]; omega) (by omega) (by simp) ?_
       intro vw5 w5 hown hg hat
       have hbw5 : Below w4.heap.size w4 w5 := ((Below.refl _ _).alloc (Nat.le_refl _) _).grown hg (by simp) (by simp [Value.ownBlock])
       obtain ⟨h, ch, rfl, hgbh, lh, hN⟩ := row_owned (L := Ly) (n := m) (by simpa using hown) (by rcases hat with e | e <;> rw [e] <;> simp [Value.ownBlock])
       have HY := Lib.hid hN
       have B5 : Below w.heap.size w w5 := bt B4 hbw5
       have yw5 := B5.size
       clear hown hg hat hN)
    | (go_at_call 36; go_must (refine (HG.out g h cg ch w5 B5 (HX.out.call lg hbw5) HY.out (Nat.lt_of_lt_of_le lg hbw5.size) lh).mono ?_); rintro e w6 ⟨rfl, hb6⟩; have B6 : Below w.heap.size w w6 := bt B5 hb6; have HX6 := Lib.hid ((HX.out.call lg hbw5).call (Nat.lt_of_lt_of_le lg hbw5.size) hb6); have lg6 : g < w6.heap.size := Nat.lt_of_lt_of_le (Nat.lt_of_lt_of_le lg hbw5.size) hb6.size; clear HX HY))
  go_loopw [11] (fun s11 wx => ∃ i : Nat, s11 = .int .i64 i ∧ i ≤ n ∧ Below w.heap.size w wx ∧ Below w6.heap.size w6 wx) (fun s11 _ => n - (intOf s11).toNat)
  case atStart => exact ⟨0, rfl, Nat.zero_le _, by repeat (with_reducible (first | exact Below.refl _ _ | assumption | apply ba | apply bd | apply bdr | (refine bs ?_ (by first | assumption | (simp; done) | (simp; omega))) | (refine bt ?_ (by assumption)))), Below.refl _ _⟩
  case round =>
    obtain ⟨i, rfl, hi, hBy, hB6⟩ := hrel
    by_cases hlt : i < n
    · have hiL : i < Lx.length := by rw [HN.out]; exact hlt
      obtain ⟨r, hr⟩ : ∃ r, Lx[i]? = some r := ⟨_, List.getElem?_eq_getElem hiL⟩
      obtain ⟨adA, rfl, hblkA, hcellA⟩ := HRA.out.2 (by omega)
      have cc0 : w.cell? (adA.add (i * 5 + 0)) = some (.int .i64 r.k) := hcellA _ _ (rowR_at Lx i r 0 _ hr rfl (by decide))
      have cc1 : w.cell? (adA.add (i * 5 + 1)) = some (.int .i64 r.n) := hcellA _ _ (rowR_at Lx i r 1 _ hr rfl (by decide))
      have cc2 : w.cell? (adA.add (i * 5 + 2)) = some (.int .i64 r.c) := hcellA _ _ (rowR_at Lx i r 2 _ hr rfl (by decide))
      have cc3 : w.cell? (adA.add (i * 5 + 3)) = some (.string (ba' r.l)) := hcellA _ _ (rowR_at Lx i r 3 _ hr rfl (by decide))
      have cc4 : w.cell? (adA.add (i * 5 + 4)) = some (.bool r.b) := hcellA _ _ (rowR_at Lx i r 4 _ hr rfl (by decide))
      have dA0 : wr.cell? (adA.add (i * 5)) = some (.int .i64 r.k) := (hBy.cell (by rw [block_of_add]; exact hblkA)).trans cc0
      have dA1 : wr.cell? {block := (adA.add (i * 5)).block, off := (adA.add (i * 5)).off + 1} = some (.int .i64 r.n) := by rw [add_off _ _ _ (by decide)]; exact (hBy.cell (by rw [block_of_add]; exact hblkA)).trans cc1
      have dA2 : wr.cell? {block := (adA.add (i * 5)).block, off := (adA.add (i * 5)).off + 2} = some (.int .i64 r.c) := by rw [add_off _ _ _ (by decide)]; exact (hBy.cell (by rw [block_of_add]; exact hblkA)).trans cc2
      have dA3 : wr.cell? {block := (adA.add (i * 5)).block, off := (adA.add (i * 5)).off + 3} = some (.string (ba' r.l)) := by rw [add_off _ _ _ (by decide)]; exact (hBy.cell (by rw [block_of_add]; exact hblkA)).trans cc3
      have dA4 : wr.cell? {block := (adA.add (i * 5)).block, off := (adA.add (i * 5)).off + 4} = some (.bool r.b) := by rw [add_off _ _ _ (by decide)]; exact (hBy.cell (by rw [block_of_add]; exact hblkA)).trans cc4
      have lA : (adA.add (i * 5)).block < wr.heap.size := by rw [block_of_add]; exact Nat.lt_of_lt_of_le hblkA hBy.size
      clear cc0 cc1 cc2 cc3 cc4
      obtain ⟨x0, x1, x2, x3, x4⟩ := HX6.out i r hr
      have g0 : wr.cell? ⟨g, i * 5, none⟩ = some (.int .i64 r.k) := (hB6.cell lg6).trans x0
      have g1 : wr.cell? ⟨g, i * 5 + 1, none⟩ = some (.int .i64 r.n) := (hB6.cell lg6).trans x1
      have g2 : wr.cell? ⟨g, i * 5 + 2, none⟩ = some (.int .i64 r.c) := (hB6.cell lg6).trans x2
      have g3 : wr.cell? ⟨g, i * 5 + 3, none⟩ = some (.string (ba' r.l)) := (hB6.cell lg6).trans x3
      have g4 : wr.cell? ⟨g, i * 5 + 4, none⟩ = some (.bool r.b) := (hB6.cell lg6).trans x4
      have hl1 : decide ((i : Int) < (n : Int)) = true := by first | (simp; done) | (simp; omega)
      clear hr hiL x0 x1 x2 x3 x4 hcellA
      go_wp2
      go_region_held3 (fun w' => w'.cell? (adA.add (i * 5)) = some (.int .i64 r.k) ∧ w'.cell? {block := (adA.add (i * 5)).block, off := (adA.add (i * 5)).off + 1} = some (.int .i64 r.n) ∧ w'.cell? {block := (adA.add (i * 5)).block, off := (adA.add (i * 5)).off + 2} = some (.int .i64 r.c) ∧ w'.cell? {block := (adA.add (i * 5)).block, off := (adA.add (i * 5)).off + 3} = some (.string (ba' r.l)) ∧ w'.cell? {block := (adA.add (i * 5)).block, off := (adA.add (i * 5)).off + 4} = some (.bool r.b) ∧ w'.cell? ⟨g, i * 5, none⟩ = some (.int .i64 r.k) ∧ w'.cell? ⟨g, i * 5 + 1, none⟩ = some (.int .i64 r.n) ∧ w'.cell? ⟨g, i * 5 + 2, none⟩ = some (.int .i64 r.c) ∧ w'.cell? ⟨g, i * 5 + 3, none⟩ = some (.string (ba' r.l)) ∧ w'.cell? ⟨g, i * 5 + 4, none⟩ = some (.bool r.b) ∧ Below w.heap.size w w' ∧ Below w6.heap.size w6 w')
        (first | (go_keep; done) | ((repeat' apply And.intro) <;> first | assumption | repeat (with_reducible (first | exact Below.refl _ _ | assumption | apply ba | apply bd | apply bdr | (refine bs ?_ (by first | assumption | (simp; done) | (simp; omega))) | (refine bt ?_ (by assumption))))))
        (first
          | fail)
      all_goals go_wp2
      all_goals go_roundw
      case rel => exact ⟨i + 1, by go_num, by omega, by repeat (with_reducible (first | exact Below.refl _ _ | assumption | apply ba | apply bd | apply bdr | (refine bs ?_ (by first | assumption | (simp; done) | (simp; omega))) | (refine bt ?_ (by assumption)))), by repeat (with_reducible (first | exact Below.refl _ _ | assumption | apply ba | apply bd | apply bdr | (refine bs ?_ (by first | assumption | (simp; done) | (simp; omega))) | (refine bt ?_ (by assumption))))⟩
      case measure => simp [intOf]; omega
    · obtain rfl : i = n := by omega
      have hl1 : decide (((i : Nat) : Int) < ((i : Nat) : Int)) = false := by simp
      go_wp2_with fail
      refine (HF.out _ (by repeat (with_reducible (first | exact Below.refl _ _ | assumption | apply ba | apply bd | apply bdr | (refine bs ?_ (by first | assumption | (simp; done) | (simp; omega))) | (refine bt ?_ (by assumption)))))).mono ?_
      rintro e w9 ⟨rfl, hb9⟩
      have B9 : Below w.heap.size w w9 := (by repeat (with_reducible (first | exact Below.refl _ _ | assumption | apply ba | apply bd | apply bdr | (refine bs ?_ (by first | assumption | (simp; done) | (simp; omega))) | (refine bt ?_ (by assumption)))))
      have y9 := B9.size
      go_wp2
      go_ret
      exact ⟨by first | rfl | exact ret_bool (by simp [*]), by repeat (with_reducible (first | exact Below.refl _ _ | assumption | apply ba | apply bd | apply bdr | (refine bs ?_ (by first | assumption | (simp; done) | (simp; omega))) | (refine bt ?_ (by assumption))))⟩
theorem generals_law (op : Int) (A B : Option Addr) (Lx Ly : List R5) (n m ca cb : Nat) (w : World) (hT : TT w) (hn : Lx.length = n) (hm : Ly.length = m) (hn6 : n ≤ 1048576) (hm6 : m ≤ 1048576) (hra : Reads w w.heap.size 5 A n (rowR Lx)) (hrb : Reads w w.heap.size 5 B m (rowR Ly)) (hbx : ∀ r ∈ Lx, InI r.n ∧ InI r.c ∧ r.l.length ≤ 1048576) (hby : ∀ r ∈ Ly, InI r.n ∧ InI r.c ∧ r.l.length ≤ 1048576) :
    Calls Tryz.prog 8 #[.int .i64 op, .slice A n ca, .slice B m cb] w fun e w' => e = .returned (.bool true) ∧ Below w.heap.size w w' := by
  have hA : ∀ w' : World, Below w.heap.size w w' → Calls Tryz.prog 35 #[.slice A n ca] w' fun e w'' => e = .returned (.bool (Lx.all R5.ok)) ∧ Below w'.heap.size w' w'' := fun w' hb' => rights_any Lx A n ca w' hn ((hra.below hb').more hb'.size) hbx hn6
  have hB : ∀ w' : World, Below w.heap.size w w' → Calls Tryz.prog 35 #[.slice B m cb] w' fun e w'' => e = .returned (.bool (Ly.all R5.ok)) ∧ Below w'.heap.size w' w'' := fun w' hb' => rights_any Ly B m cb w' hm ((hrb.below hb').more hb'.size) hby hm6
  by_cases e1 : (100 : Int) < (n : Int)
  · exact generals_big1 op A B n m ca cb w hT (decide_eq_true e1)
  by_cases e2 : (100 : Int) < (m : Int)
  · exact generals_big2 op A B n m ca cb w hT (decide_eq_false e1) (decide_eq_true e2)
  cases ha : Lx.all R5.ok with
  | false => rw [ha] at hA; exact generals_no1 op A B n m ca cb w hT (decide_eq_false e1) (decide_eq_false e2) (Lib.hid hA)
  | true =>
    rw [ha] at hA
    cases hb : Ly.all R5.ok with
    | false => rw [hb] at hB; exact generals_no2 op A B n m ca cb w hT (decide_eq_false e1) (decide_eq_false e2) (Lib.hid hA) (Lib.hid hB)
    | true =>
      rw [hb] at hB
      obtain ⟨Mx, hMx, okx, atx⟩ := row_avs Lx ha
      obtain ⟨My, hMy, oky, aty⟩ := row_avs Ly hb
      by_cases o1 : op < 19
      · exact generals_low Lx Ly op A B n m ca cb w hT (decide_eq_false e1) (decide_eq_false e2) (Lib.hid hA) (Lib.hid hB) hn hm hn6 hm6 (Lib.hid hra) (Lib.hid hrb) (Lib.hid fun g h c d w' _ _ _ _ _ => general_low op _ _ n m c d w' o1) (decide_eq_true o1)
      by_cases o2 : 24 < op
      · exact generals_high Lx Ly op A B n m ca cb w hT (decide_eq_false e1) (decide_eq_false e2) (Lib.hid hA) (Lib.hid hB) hn hm hn6 hm6 (Lib.hid hra) (Lib.hid hrb) (Lib.hid fun g h c d w' _ _ _ _ _ => general_high op _ _ n m c d w' o2) (decide_eq_false o1) (decide_eq_true o2)
      obtain ⟨⟨rb, re⟩, hgo⟩ : ∃ p, goZ (op - 6) My Mx = p := ⟨_, rfl⟩
      refine generals_in Lx Ly rb re op A B n m ca cb w hT (decide_eq_false e1) (decide_eq_false e2) (Lib.hid hA) (Lib.hid hB) hn hm hn6 hm6 (Lib.hid hra) (Lib.hid hrb) (Lib.hid fun g h c d w' hw gx gy lg lh => ?_) (decide_eq_false o1) (decide_eq_false o2) (Lib.hid fun w' hw => ?_)
      · exact general_core op _ _ g h n m c d Mx My rb re w' (hT.below hw) (by omega) (by omega) (fun _ => rfl) (fun _ => rfl) lg lh (hMx.trans hn) (hMy.trans hm) (by omega) (by omega) (atomsG_of hMx atx gx) (atomsG_of hMy aty gy) okx oky hgo
      · rw [show wrap64 (op - 19) = (op - 6) - 13 by unfold wrap64; omega]
        exact refGen_core (op - 6) A B n m ca cb Lx Ly Mx My rb re w' (by omega) (by omega) hn hm (hMx.trans hn) (hMy.trans hm) hn6 hm6 ((hra.below hw).more hw.size) ((hrb.below hw).more hw.size) atx aty okx oky hgo
end Go.Proofs.YtemgabmafmehnaaGreatDoor
