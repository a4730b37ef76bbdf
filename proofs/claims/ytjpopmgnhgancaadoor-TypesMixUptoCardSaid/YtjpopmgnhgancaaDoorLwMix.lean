/- The statement TypesMix: its walk. No condition beyond what the theorems state. -/
import Derived.Test.YtjpopmgnhgancaaDoorCalls
import Derived.Test.YtjpopmgnhgancaaDoorRegMix
import Derived.Test.YtjpopmgnhgancaaDoorRefSub
namespace Go.Proofs.YtjpopmgnhgancaaDoor
open Go.RowKit Go.Lib
set_option maxRecDepth 100000
set_option maxHeartbeats 8000000
theorem either_nil (w : World) (hE : TE w) : Calls Tryd.prog 19 #[.slice none 0 0] w fun e w' => e = .returned (.agg #[.int .i64 0, .string ⟨#[]⟩, .int .i64 3]) ∧ Below w.heap.size w w' := by
  obtain ⟨_, u2, u3⟩ := hE
  have hg2 : 2 < w.heap.size := World.block_lt_of_cell? w _ u2
  have H5 : Hid (∀ w1 : World, Calls Tryd.prog 46 #[.agg #[.int .i64 0, .string ⟨#[]⟩], .agg #[.int .i64 2, .int .i64 0]] w1 fun e w' => e = .returned (.agg #[.int .i64 0, .string ⟨#[]⟩, .int .i64 3]) ∧ Below w1.heap.size w1 w') := Lib.hid (fun w1 => made_zero ⟨#[]⟩ 2 0 w1)
  go_enter Tryd.func19, Tryd.ntmps19
  go_wp2
  go_loopw [10] (fun s10 wx => s10 = .int .i64 0 ∧ wx.cell? ⟨w.heap.size + 1, 0, none⟩ = some (.int .i64 0) ∧ wx.cell? ⟨w.heap.size + 1, 1, none⟩ = some (.string ⟨#[]⟩) ∧ wx.cell? ⟨w.heap.size + 1 + 1, 0, none⟩ = some (.int .i64 2) ∧ wx.cell? ⟨w.heap.size + 1 + 1, 1, none⟩ = some (.int .i64 0) ∧ wx.cell? ⟨w.heap.size, 0, none⟩ = some (.int .i64 0) ∧ wx.cell? ⟨w.heap.size, 1, none⟩ = some (.string ⟨#[]⟩) ∧ wx.cell? ⟨w.heap.size, 2, none⟩ = some (.int .i64 0) ∧ wx.frozen? ⟨w.heap.size, 0, none⟩ = false ∧ wx.frozen? ⟨w.heap.size, 1, none⟩ = false ∧ wx.frozen? ⟨w.heap.size, 2, none⟩ = false ∧ w.heap.size + 1 + 1 < wx.heap.size ∧ w.heap.size + 1 < w.heap.size + 1 + 1 ∧ Below w.heap.size w wx) (fun _ _ => 0)
  case atStart => exact ⟨rfl, (by first | assumption | (go_simp; done) | (go_simp; rfl) | (go_keep; done)), (by first | assumption | (go_simp; done) | (go_simp; rfl) | (go_keep; done)), (by first | assumption | (go_simp; done) | (go_simp; rfl) | (go_keep; done)), (by first | assumption | (go_simp; done) | (go_simp; rfl) | (go_keep; done)), (by first | assumption | (go_simp; done) | (go_simp; rfl) | (go_keep; done)), (by first | assumption | (go_simp; done) | (go_simp; rfl) | (go_keep; done)), (by first | assumption | (go_simp; done) | (go_simp; rfl) | (go_keep; done)), (by simp only [frozen?_alloc_cells]; exact frz_past w _ _ (by omega)), (by simp only [frozen?_alloc_cells]; exact frz_past w _ _ (by omega)), (by simp only [frozen?_alloc_cells]; exact frz_past w _ _ (by omega)), (by first | (simp; done) | (simp; omega) | (simp at *; omega)), (by first | (simp; done) | (simp; omega) | (simp at *; omega)), (by repeat (with_reducible (first | exact Below.refl _ _ | assumption | apply ba | apply bd | apply bdr | (refine bs ?_ (by first | assumption | (simp; done) | (simp; omega))) | (refine bt ?_ (by assumption)))))⟩
  case round =>
    obtain ⟨rfl, c0, c1, c2, c3, r0, r1, r2, f4, f5, f6, hz, hz2, hB⟩ := hrel
    have HB := Lib.hid hB
    clear hB
    go_wp2_with fail
    refine (H5.out _).mono ?_
    rintro e w7 ⟨rfl, hb⟩
    have q0 := ((bcell hb).1 (w.heap.size) 0 (by omega)).trans r0
    have q1 := ((bcell hb).1 (w.heap.size) 1 (by omega)).trans r1
    have q2 := ((bcell hb).1 (w.heap.size) 2 (by omega)).trans r2
    have q3 := ((bcell hb).2 (w.heap.size) 0 (by omega)).trans f4
    have q4 := ((bcell hb).2 (w.heap.size) 1 (by omega)).trans f5
    have q5 := ((bcell hb).2 (w.heap.size) 2 (by omega)).trans f6
    have HB7 := Lib.hid (bt HB.out hb)
    clear hb c0 c1 c2 c3 r0 r1 r2 f4 f5 f6
    go_wp2
    exact bodyPost_ret (v := .agg #[.int .i64 0, .string ⟨#[]⟩, .int .i64 3]) (by simp [results, Tryd.results19, go_sem, *]) rfl ⟨rfl, bs (bs (bs HB7.out (Nat.le_refl _)) (Nat.le_refl _)) (Nat.le_refl _)⟩
theorem join_nil (w : World) (hE : TE w) : Calls Tryd.prog 20 #[.slice none 0 0] w fun e w' => e = .returned (.agg #[.int .i64 0, .string ⟨#[]⟩, .int .i64 3]) ∧ Below w.heap.size w w' := by
  obtain ⟨_, u2, u3⟩ := hE
  have hg2 : 2 < w.heap.size := World.block_lt_of_cell? w _ u2
  have H5 : Hid (∀ w1 : World, Calls Tryd.prog 46 #[.agg #[.int .i64 0, .string ⟨#[]⟩], .agg #[.int .i64 0, .int .i64 0]] w1 fun e w' => e = .returned (.agg #[.int .i64 0, .string ⟨#[]⟩, .int .i64 3]) ∧ Below w1.heap.size w1 w') := Lib.hid (fun w1 => made_zero ⟨#[]⟩ 0 0 w1)
  go_enter Tryd.func20, Tryd.ntmps20
  go_wp2_with fail
  refine (exactly0 _).mono ?_
  rintro e w1 ⟨rfl, hb1⟩; have B1 : Below w.heap.size w w1 := (by repeat (with_reducible (first | exact Below.refl _ _ | assumption | apply ba | apply bd | apply bdr | (refine bs ?_ (by first | assumption | (simp; done) | (simp; omega))) | (refine bt ?_ (by assumption))))); have y1 := B1.size; have hc1_0 := fun o => (bcell hb1).1 (w.heap.size) o (by first | (simp; done) | assumption | (simp; omega)); have hf1_0 := fun o => (bcell hb1).2 (w.heap.size) o (by first | (simp; done) | assumption | (simp; omega)); have z1_0 : w.heap.size < w1.heap.size := zz hb1 (by first | (simp; done) | assumption | (simp; omega)); have hc1_1 := fun o => (bcell hb1).1 (w.heap.size + 1) o (by first | (simp; done) | assumption | (simp; omega)); have hf1_1 := fun o => (bcell hb1).2 (w.heap.size + 1) o (by first | (simp; done) | assumption | (simp; omega)); have z1_1 : w.heap.size + 1 < w1.heap.size := zz hb1 (by first | (simp; done) | assumption | (simp; omega))
  go_wp2
  go_loopw [10] (fun s10 wx => s10 = .int .i64 0 ∧ wx.cell? ⟨w.heap.size + 1, 0, none⟩ = some (.int .i64 0) ∧ wx.cell? ⟨w.heap.size + 1, 1, none⟩ = some (.string ⟨#[]⟩) ∧ wx.cell? ⟨w1.heap.size, 0, none⟩ = some (.int .i64 0) ∧ wx.cell? ⟨w1.heap.size, 1, none⟩ = some (.int .i64 0) ∧ wx.cell? ⟨w.heap.size, 0, none⟩ = some (.int .i64 0) ∧ wx.cell? ⟨w.heap.size, 1, none⟩ = some (.string ⟨#[]⟩) ∧ wx.cell? ⟨w.heap.size, 2, none⟩ = some (.int .i64 0) ∧ wx.frozen? ⟨w.heap.size, 0, none⟩ = false ∧ wx.frozen? ⟨w.heap.size, 1, none⟩ = false ∧ wx.frozen? ⟨w.heap.size, 2, none⟩ = false ∧ w1.heap.size < wx.heap.size ∧ w.heap.size + 1 < w1.heap.size ∧ Below w.heap.size w wx) (fun _ _ => 0)
  case atStart => exact ⟨rfl, (by first | assumption | (go_simp; done) | (go_simp; rfl) | (go_keep; done)), (by first | assumption | (go_simp; done) | (go_simp; rfl) | (go_keep; done)), (by first | assumption | (go_simp; done) | (go_simp; rfl) | (go_keep; done)), (by first | assumption | (go_simp; done) | (go_simp; rfl) | (go_keep; done)), (by first | assumption | (go_simp; done) | (go_simp; rfl) | (go_keep; done)), (by first | assumption | (go_simp; done) | (go_simp; rfl) | (go_keep; done)), (by first | assumption | (go_simp; done) | (go_simp; rfl) | (go_keep; done)), (by first | (simp only [frozen?_alloc_cells]; exact frz_past w _ _ (by omega)) | (simp only [frozen?_alloc_cells]; exact frz_past w1 _ _ (by omega)) | (simp only [frozen?_alloc_cells, hf1_0]; exact frz_past w _ _ (by omega)) | (simp only [frozen?_alloc_cells, hf1_1]; exact frz_past w _ _ (by omega))), (by first | (simp only [frozen?_alloc_cells]; exact frz_past w _ _ (by omega)) | (simp only [frozen?_alloc_cells]; exact frz_past w1 _ _ (by omega)) | (simp only [frozen?_alloc_cells, hf1_0]; exact frz_past w _ _ (by omega)) | (simp only [frozen?_alloc_cells, hf1_1]; exact frz_past w _ _ (by omega))), (by first | (simp only [frozen?_alloc_cells]; exact frz_past w _ _ (by omega)) | (simp only [frozen?_alloc_cells]; exact frz_past w1 _ _ (by omega)) | (simp only [frozen?_alloc_cells, hf1_0]; exact frz_past w _ _ (by omega)) | (simp only [frozen?_alloc_cells, hf1_1]; exact frz_past w _ _ (by omega))), (by first | (simp; done) | (simp; omega) | (simp at *; omega)), (by first | (simp; done) | (simp; omega) | (simp at *; omega)), (by repeat (with_reducible (first | exact Below.refl _ _ | assumption | apply ba | apply bd | apply bdr | (refine bs ?_ (by first | assumption | (simp; done) | (simp; omega))) | (refine bt ?_ (by assumption)))))⟩
  case round =>
    obtain ⟨rfl, c0, c1, c2, c3, r0, r1, r2, f4, f5, f6, hz, hz2, hB⟩ := hrel
    have HB := Lib.hid hB
    clear hB
    go_wp2_with fail
    refine (H5.out _).mono ?_
    rintro e w7 ⟨rfl, hb⟩
    have q0 := ((bcell hb).1 (w.heap.size) 0 (by omega)).trans r0
    have q1 := ((bcell hb).1 (w.heap.size) 1 (by omega)).trans r1
    have q2 := ((bcell hb).1 (w.heap.size) 2 (by omega)).trans r2
    have q3 := ((bcell hb).2 (w.heap.size) 0 (by omega)).trans f4
    have q4 := ((bcell hb).2 (w.heap.size) 1 (by omega)).trans f5
    have q5 := ((bcell hb).2 (w.heap.size) 2 (by omega)).trans f6
    have HB7 := Lib.hid (bt HB.out hb)
    clear hb c0 c1 c2 c3 r0 r1 r2 f4 f5 f6
    go_wp2
    exact bodyPost_ret (v := .agg #[.int .i64 0, .string ⟨#[]⟩, .int .i64 3]) (by simp [results, Tryd.results20, go_sem, *]) rfl ⟨rfl, bs (bs (bs HB7.out (Nat.le_refl _)) (Nat.le_refl _)) (Nat.le_refl _)⟩
end Go.Proofs.YtjpopmgnhgancaaDoor
namespace Go.Proofs.YtjpopmgnhgancaaDoor
open Go.RowKit Go.Lib
set_option maxRecDepth 100000
set_option maxHeartbeats 16000000
theorem mix_not (ai ao bi bo ci co : Int) (an bn cn : List UInt8) (ha : an.length ≤ 1099511627776) (hb : bn.length ≤ 1099511627776) (hc : cn.length ≤ 1099511627776) (w : World) (hE : TE w)
    (h : rightB ai an ao = false ∨ (rightB ai an ao = true ∧ rightB bi bn bo = false) ∨ (rightB ai an ao = true ∧ rightB bi bn bo = true ∧ rightB ci cn co = false)) :
    Calls Tryd.prog 4 #[.agg #[.int .i64 ai, .string (ba' an), .int .i64 ao], .agg #[.int .i64 bi, .string (ba' bn), .int .i64 bo], .agg #[.int .i64 ci, .string (ba' cn), .int .i64 co]] w fun e w' => e = .returned (.bool true) ∧ Below w.heap.size w w' := by
  have HA : Hid (∀ w1, Below w.heap.size w w1 → Calls Tryd.prog 8 #[] w1 fun e w' => e = .returned (.bool true) ∧ Below w1.heap.size w1 w') := Lib.hid fun w1 h1 => awake_any w1 (hE.below h1)
  have HR : Hid (∀ (i o : Int) (l : List UInt8) (w1 : World), l.length ≤ 1099511627776 → Calls Tryd.prog 10 #[.agg #[.int .i64 i, .string (ba' l), .int .i64 o]] w1 fun e w' => e = .returned (.bool (rightB i l o)) ∧ Below w1.heap.size w1 w') := Lib.hid fun i o l w1 hl => right_ref i o l hl w1
  clear hE
  have HRa := Lib.hid (fun w1 => HR.out ai ao an w1 ha)
  have HRb := Lib.hid (fun w1 => HR.out bi bo bn w1 hb)
  have HRc := Lib.hid (fun w1 => HR.out ci co cn w1 hc)
  clear HR ha hb hc
  rcases h with h | ⟨h, h'⟩ | ⟨h, h', h''⟩
  · rw [h] at HRa
    go_enter Tryd.func4, Tryd.ntmps4
    go_wp2_with fail
    refine (HA.out _ (by repeat (with_reducible (first | exact Below.refl _ _ | assumption | apply ba | apply bd | apply bdr | (refine bs ?_ (by first | assumption | (simp; done) | (simp; omega))) | (refine bt ?_ (by assumption)))))).mono ?_
    rintro e w1 ⟨rfl, hb1⟩
    have B1 : Below w.heap.size w w1 := (by repeat (with_reducible (first | exact Below.refl _ _ | assumption | apply ba | apply bd | apply bdr | (refine bs ?_ (by first | assumption | (simp; done) | (simp; omega))) | (refine bt ?_ (by assumption)))))
    have hc1_0 := fun o => (bcell hb1).1 (w.heap.size) o (by first | (simp; done) | assumption | (simp; omega))
    have zz1_0 : w.heap.size < w1.heap.size := zz hb1 (by first | (simp; done) | assumption | (simp; omega))
    have hc1_1 := fun o => (bcell hb1).1 (w.heap.size + 1) o (by first | (simp; done) | assumption | (simp; omega))
    have zz1_1 : w.heap.size + 1 < w1.heap.size := zz hb1 (by first | (simp; done) | assumption | (simp; omega))
    have hc1_2 := fun o => (bcell hb1).1 (w.heap.size + 1 + 1) o (by first | (simp; done) | assumption | (simp; omega))
    have zz1_2 : w.heap.size + 1 + 1 < w1.heap.size := zz hb1 (by first | (simp; done) | assumption | (simp; omega))
    go_wp2_with fail
    refine (HRa.out _).mono ?_
    rintro e w2 ⟨rfl, hb2⟩
    have B2 : Below w.heap.size w w2 := (by repeat (with_reducible (first | exact Below.refl _ _ | assumption | apply ba | apply bd | apply bdr | (refine bs ?_ (by first | assumption | (simp; done) | (simp; omega))) | (refine bt ?_ (by assumption)))))
    have hc2_0 := fun o => (bcell hb2).1 (w.heap.size) o (by first | (simp; done) | assumption | (simp; omega))
    have zz2_0 : w.heap.size < w2.heap.size := zz hb2 (by first | (simp; done) | assumption | (simp; omega))
    have hc2_1 := fun o => (bcell hb2).1 (w.heap.size + 1) o (by first | (simp; done) | assumption | (simp; omega))
    have zz2_1 : w.heap.size + 1 < w2.heap.size := zz hb2 (by first | (simp; done) | assumption | (simp; omega))
    have hc2_2 := fun o => (bcell hb2).1 (w.heap.size + 1 + 1) o (by first | (simp; done) | assumption | (simp; omega))
    have zz2_2 : w.heap.size + 1 + 1 < w2.heap.size := zz hb2 (by first | (simp; done) | assumption | (simp; omega))
    go_wp2_with fail
    refine (HA.out _ (by repeat (with_reducible (first | exact Below.refl _ _ | assumption | apply ba | apply bd | apply bdr | (refine bs ?_ (by first | assumption | (simp; done) | (simp; omega))) | (refine bt ?_ (by assumption)))))).mono ?_
    rintro e w3 ⟨rfl, hb3⟩
    have B3 : Below w.heap.size w w3 := (by repeat (with_reducible (first | exact Below.refl _ _ | assumption | apply ba | apply bd | apply bdr | (refine bs ?_ (by first | assumption | (simp; done) | (simp; omega))) | (refine bt ?_ (by assumption)))))
    have hc3_0 := fun o => (bcell hb3).1 (w.heap.size) o (by first | (simp; done) | assumption | (simp; omega))
    have zz3_0 : w.heap.size < w3.heap.size := zz hb3 (by first | (simp; done) | assumption | (simp; omega))
    have hc3_1 := fun o => (bcell hb3).1 (w.heap.size + 1) o (by first | (simp; done) | assumption | (simp; omega))
    have zz3_1 : w.heap.size + 1 < w3.heap.size := zz hb3 (by first | (simp; done) | assumption | (simp; omega))
    have hc3_2 := fun o => (bcell hb3).1 (w.heap.size + 1 + 1) o (by first | (simp; done) | assumption | (simp; omega))
    have zz3_2 : w.heap.size + 1 + 1 < w3.heap.size := zz hb3 (by first | (simp; done) | assumption | (simp; omega))
    go_wp2
    go_ret
    exact ⟨rfl, by assumption⟩
  · rw [h] at HRa; rw [h'] at HRb
    go_enter Tryd.func4, Tryd.ntmps4
    go_wp2_with fail
    refine (HA.out _ (by repeat (with_reducible (first | exact Below.refl _ _ | assumption | apply ba | apply bd | apply bdr | (refine bs ?_ (by first | assumption | (simp; done) | (simp; omega))) | (refine bt ?_ (by assumption)))))).mono ?_
    rintro e w1 ⟨rfl, hb1⟩
    have B1 : Below w.heap.size w w1 := (by repeat (with_reducible (first | exact Below.refl _ _ | assumption | apply ba | apply bd | apply bdr | (refine bs ?_ (by first | assumption | (simp; done) | (simp; omega))) | (refine bt ?_ (by assumption)))))
    have hc1_0 := fun o => (bcell hb1).1 (w.heap.size) o (by first | (simp; done) | assumption | (simp; omega))
    have zz1_0 : w.heap.size < w1.heap.size := zz hb1 (by first | (simp; done) | assumption | (simp; omega))
    have hc1_1 := fun o => (bcell hb1).1 (w.heap.size + 1) o (by first | (simp; done) | assumption | (simp; omega))
    have zz1_1 : w.heap.size + 1 < w1.heap.size := zz hb1 (by first | (simp; done) | assumption | (simp; omega))
    have hc1_2 := fun o => (bcell hb1).1 (w.heap.size + 1 + 1) o (by first | (simp; done) | assumption | (simp; omega))
    have zz1_2 : w.heap.size + 1 + 1 < w1.heap.size := zz hb1 (by first | (simp; done) | assumption | (simp; omega))
    go_wp2_with fail
    refine (HRa.out _).mono ?_
    rintro e w2 ⟨rfl, hb2⟩
    have B2 : Below w.heap.size w w2 := (by repeat (with_reducible (first | exact Below.refl _ _ | assumption | apply ba | apply bd | apply bdr | (refine bs ?_ (by first | assumption | (simp; done) | (simp; omega))) | (refine bt ?_ (by assumption)))))
    have hc2_0 := fun o => (bcell hb2).1 (w.heap.size) o (by first | (simp; done) | assumption | (simp; omega))
    have zz2_0 : w.heap.size < w2.heap.size := zz hb2 (by first | (simp; done) | assumption | (simp; omega))
    have hc2_1 := fun o => (bcell hb2).1 (w.heap.size + 1) o (by first | (simp; done) | assumption | (simp; omega))
    have zz2_1 : w.heap.size + 1 < w2.heap.size := zz hb2 (by first | (simp; done) | assumption | (simp; omega))
    have hc2_2 := fun o => (bcell hb2).1 (w.heap.size + 1 + 1) o (by first | (simp; done) | assumption | (simp; omega))
    have zz2_2 : w.heap.size + 1 + 1 < w2.heap.size := zz hb2 (by first | (simp; done) | assumption | (simp; omega))
    go_wp2_with fail
    refine (HRb.out _).mono ?_
    rintro e w3 ⟨rfl, hb3⟩
    have B3 : Below w.heap.size w w3 := (by repeat (with_reducible (first | exact Below.refl _ _ | assumption | apply ba | apply bd | apply bdr | (refine bs ?_ (by first | assumption | (simp; done) | (simp; omega))) | (refine bt ?_ (by assumption)))))
    have hc3_0 := fun o => (bcell hb3).1 (w.heap.size) o (by first | (simp; done) | assumption | (simp; omega))
    have zz3_0 : w.heap.size < w3.heap.size := zz hb3 (by first | (simp; done) | assumption | (simp; omega))
    have hc3_1 := fun o => (bcell hb3).1 (w.heap.size + 1) o (by first | (simp; done) | assumption | (simp; omega))
    have zz3_1 : w.heap.size + 1 < w3.heap.size := zz hb3 (by first | (simp; done) | assumption | (simp; omega))
    have hc3_2 := fun o => (bcell hb3).1 (w.heap.size + 1 + 1) o (by first | (simp; done) | assumption | (simp; omega))
    have zz3_2 : w.heap.size + 1 + 1 < w3.heap.size := zz hb3 (by first | (simp; done) | assumption | (simp; omega))
    go_wp2_with fail
    refine (HA.out _ (by repeat (with_reducible (first | exact Below.refl _ _ | assumption | apply ba | apply bd | apply bdr | (refine bs ?_ (by first | assumption | (simp; done) | (simp; omega))) | (refine bt ?_ (by assumption)))))).mono ?_
    rintro e w4 ⟨rfl, hb4⟩
    have B4 : Below w.heap.size w w4 := (by repeat (with_reducible (first | exact Below.refl _ _ | assumption | apply ba | apply bd | apply bdr | (refine bs ?_ (by first | assumption | (simp; done) | (simp; omega))) | (refine bt ?_ (by assumption)))))
    have hc4_0 := fun o => (bcell hb4).1 (w.heap.size) o (by first | (simp; done) | assumption | (simp; omega))
    have zz4_0 : w.heap.size < w4.heap.size := zz hb4 (by first | (simp; done) | assumption | (simp; omega))
    have hc4_1 := fun o => (bcell hb4).1 (w.heap.size + 1) o (by first | (simp; done) | assumption | (simp; omega))
    have zz4_1 : w.heap.size + 1 < w4.heap.size := zz hb4 (by first | (simp; done) | assumption | (simp; omega))
    have hc4_2 := fun o => (bcell hb4).1 (w.heap.size + 1 + 1) o (by first | (simp; done) | assumption | (simp; omega))
    have zz4_2 : w.heap.size + 1 + 1 < w4.heap.size := zz hb4 (by first | (simp; done) | assumption | (simp; omega))
    go_wp2
    go_ret
    exact ⟨rfl, by assumption⟩
  · rw [h] at HRa; rw [h'] at HRb; rw [h''] at HRc
    go_enter Tryd.func4, Tryd.ntmps4
    go_wp2_with fail
    refine (HA.out _ (by repeat (with_reducible (first | exact Below.refl _ _ | assumption | apply ba | apply bd | apply bdr | (refine bs ?_ (by first | assumption | (simp; done) | (simp; omega))) | (refine bt ?_ (by assumption)))))).mono ?_
    rintro e w1 ⟨rfl, hb1⟩
    have B1 : Below w.heap.size w w1 := (by repeat (with_reducible (first | exact Below.refl _ _ | assumption | apply ba | apply bd | apply bdr | (refine bs ?_ (by first | assumption | (simp; done) | (simp; omega))) | (refine bt ?_ (by assumption)))))
    have hc1_0 := fun o => (bcell hb1).1 (w.heap.size) o (by first | (simp; done) | assumption | (simp; omega))
    have zz1_0 : w.heap.size < w1.heap.size := zz hb1 (by first | (simp; done) | assumption | (simp; omega))
    have hc1_1 := fun o => (bcell hb1).1 (w.heap.size + 1) o (by first | (simp; done) | assumption | (simp; omega))
    have zz1_1 : w.heap.size + 1 < w1.heap.size := zz hb1 (by first | (simp; done) | assumption | (simp; omega))
    have hc1_2 := fun o => (bcell hb1).1 (w.heap.size + 1 + 1) o (by first | (simp; done) | assumption | (simp; omega))
    have zz1_2 : w.heap.size + 1 + 1 < w1.heap.size := zz hb1 (by first | (simp; done) | assumption | (simp; omega))
    go_wp2_with fail
    refine (HRa.out _).mono ?_
    rintro e w2 ⟨rfl, hb2⟩
    have B2 : Below w.heap.size w w2 := (by repeat (with_reducible (first | exact Below.refl _ _ | assumption | apply ba | apply bd | apply bdr | (refine bs ?_ (by first | assumption | (simp; done) | (simp; omega))) | (refine bt ?_ (by assumption)))))
    have hc2_0 := fun o => (bcell hb2).1 (w.heap.size) o (by first | (simp; done) | assumption | (simp; omega))
    have zz2_0 : w.heap.size < w2.heap.size := zz hb2 (by first | (simp; done) | assumption | (simp; omega))
    have hc2_1 := fun o => (bcell hb2).1 (w.heap.size + 1) o (by first | (simp; done) | assumption | (simp; omega))
    have zz2_1 : w.heap.size + 1 < w2.heap.size := zz hb2 (by first | (simp; done) | assumption | (simp; omega))
    have hc2_2 := fun o => (bcell hb2).1 (w.heap.size + 1 + 1) o (by first | (simp; done) | assumption | (simp; omega))
    have zz2_2 : w.heap.size + 1 + 1 < w2.heap.size := zz hb2 (by first | (simp; done) | assumption | (simp; omega))
    go_wp2_with fail
    refine (HRb.out _).mono ?_
    rintro e w3 ⟨rfl, hb3⟩
    have B3 : Below w.heap.size w w3 := (by repeat (with_reducible (first | exact Below.refl _ _ | assumption | apply ba | apply bd | apply bdr | (refine bs ?_ (by first | assumption | (simp; done) | (simp; omega))) | (refine bt ?_ (by assumption)))))
    have hc3_0 := fun o => (bcell hb3).1 (w.heap.size) o (by first | (simp; done) | assumption | (simp; omega))
    have zz3_0 : w.heap.size < w3.heap.size := zz hb3 (by first | (simp; done) | assumption | (simp; omega))
    have hc3_1 := fun o => (bcell hb3).1 (w.heap.size + 1) o (by first | (simp; done) | assumption | (simp; omega))
    have zz3_1 : w.heap.size + 1 < w3.heap.size := zz hb3 (by first | (simp; done) | assumption | (simp; omega))
    have hc3_2 := fun o => (bcell hb3).1 (w.heap.size + 1 + 1) o (by first | (simp; done) | assumption | (simp; omega))
    have zz3_2 : w.heap.size + 1 + 1 < w3.heap.size := zz hb3 (by first | (simp; done) | assumption | (simp; omega))
    go_wp2_with fail
    refine (HRc.out _).mono ?_
    rintro e w4 ⟨rfl, hb4⟩
    have B4 : Below w.heap.size w w4 := (by repeat (with_reducible (first | exact Below.refl _ _ | assumption | apply ba | apply bd | apply bdr | (refine bs ?_ (by first | assumption | (simp; done) | (simp; omega))) | (refine bt ?_ (by assumption)))))
    have hc4_0 := fun o => (bcell hb4).1 (w.heap.size) o (by first | (simp; done) | assumption | (simp; omega))
    have zz4_0 : w.heap.size < w4.heap.size := zz hb4 (by first | (simp; done) | assumption | (simp; omega))
    have hc4_1 := fun o => (bcell hb4).1 (w.heap.size + 1) o (by first | (simp; done) | assumption | (simp; omega))
    have zz4_1 : w.heap.size + 1 < w4.heap.size := zz hb4 (by first | (simp; done) | assumption | (simp; omega))
    have hc4_2 := fun o => (bcell hb4).1 (w.heap.size + 1 + 1) o (by first | (simp; done) | assumption | (simp; omega))
    have zz4_2 : w.heap.size + 1 + 1 < w4.heap.size := zz hb4 (by first | (simp; done) | assumption | (simp; omega))
    go_wp2_with fail
    refine (HA.out _ (by repeat (with_reducible (first | exact Below.refl _ _ | assumption | apply ba | apply bd | apply bdr | (refine bs ?_ (by first | assumption | (simp; done) | (simp; omega))) | (refine bt ?_ (by assumption)))))).mono ?_
    rintro e w5 ⟨rfl, hb5⟩
    have B5 : Below w.heap.size w w5 := (by repeat (with_reducible (first | exact Below.refl _ _ | assumption | apply ba | apply bd | apply bdr | (refine bs ?_ (by first | assumption | (simp; done) | (simp; omega))) | (refine bt ?_ (by assumption)))))
    have hc5_0 := fun o => (bcell hb5).1 (w.heap.size) o (by first | (simp; done) | assumption | (simp; omega))
    have zz5_0 : w.heap.size < w5.heap.size := zz hb5 (by first | (simp; done) | assumption | (simp; omega))
    have hc5_1 := fun o => (bcell hb5).1 (w.heap.size + 1) o (by first | (simp; done) | assumption | (simp; omega))
    have zz5_1 : w.heap.size + 1 < w5.heap.size := zz hb5 (by first | (simp; done) | assumption | (simp; omega))
    have hc5_2 := fun o => (bcell hb5).1 (w.heap.size + 1 + 1) o (by first | (simp; done) | assumption | (simp; omega))
    have zz5_2 : w.heap.size + 1 + 1 < w5.heap.size := zz hb5 (by first | (simp; done) | assumption | (simp; omega))
    go_wp2
    go_ret
    exact ⟨rfl, by assumption⟩
theorem gt_e' {a b : TT} (ha : GT a) (hb : GT b) : GT (eitherT [a, b]) := by rw [either2]; exact gt_made (with_gk ha.1 hb.1)
theorem gt_j' {a b : TT} (ha : GT a) (hb : GT b) : GT (joinT [a, b]) := by rw [join2]; exact gt_made (with_gk ha.1 hb.1)
theorem gt_three {a b c : TT} (ha : GT a) (hb : GT b) (hc : GT c) : ∀ t ∈ [a, b, c], GT t := by
  intro t ht
  rcases List.mem_cons.1 ht with rfl | ht
  · exact ha
  · exact gt_two hb hc t ht
theorem gt_one {a : TT} (ha : GT a) : ∀ t ∈ [a], GT t := by
  intro t ht
  rw [List.mem_singleton.1 ht]; exact ha
theorem gt_empty : GT emptyT := gt_lit 0 3 (by decide) (by decide)
theorem mix_right (a b c : TT) (ha : GT a) (hb : GT b) (hc : GT c) (hla : a.k.n.length ≤ 1099511627776) (hlb : b.k.n.length ≤ 1099511627776) (hlc : c.k.n.length ≤ 1099511627776) (hra : rightB (a.k.i : Nat) a.k.n (a.o : Nat) = true) (hrb : rightB (b.k.i : Nat) b.k.n (b.o : Nat) = true) (hrc : rightB (c.k.i : Nat) c.k.n (c.o : Nat) = true) (w : World) (hE : TE w) :
    Calls Tryd.prog 4 #[.agg #[.int .i64 (a.k.i : Nat), .string (ba' a.k.n), .int .i64 (a.o : Nat)], .agg #[.int .i64 (b.k.i : Nat), .string (ba' b.k.n), .int .i64 (b.o : Nat)], .agg #[.int .i64 (c.k.i : Nat), .string (ba' c.k.n), .int .i64 (c.o : Nat)]] w fun e w' => e = .returned (.bool true) ∧ Below w.heap.size w w' := by
  have HA : Hid (∀ w1, Below w.heap.size w w1 → Calls Tryd.prog 8 #[] w1 fun e w' => e = .returned (.bool true) ∧ Below w1.heap.size w1 w') := Lib.hid fun w1 h1 => awake_any w1 (hE.below h1)
  have HRa : Hid (∀ w1 : World, Calls Tryd.prog 10 #[.agg #[.int .i64 (a.k.i : Nat), .string (ba' a.k.n), .int .i64 (a.o : Nat)]] w1 fun e w' => e = .returned (.bool true) ∧ Below w1.heap.size w1 w') := Lib.hid fun w1 => by
    have h := right_ref (a.k.i : Nat) (a.o : Nat) a.k.n hla w1
    rw [hra] at h
    exact h
  have HRb : Hid (∀ w1 : World, Calls Tryd.prog 10 #[.agg #[.int .i64 (b.k.i : Nat), .string (ba' b.k.n), .int .i64 (b.o : Nat)]] w1 fun e w' => e = .returned (.bool true) ∧ Below w1.heap.size w1 w') := Lib.hid fun w1 => by
    have h := right_ref (b.k.i : Nat) (b.o : Nat) b.k.n hlb w1
    rw [hrb] at h
    exact h
  have HRc : Hid (∀ w1 : World, Calls Tryd.prog 10 #[.agg #[.int .i64 (c.k.i : Nat), .string (ba' c.k.n), .int .i64 (c.o : Nat)]] w1 fun e w' => e = .returned (.bool true) ∧ Below w1.heap.size w1 w') := Lib.hid fun w1 => by
    have h := right_ref (c.k.i : Nat) (c.o : Nat) c.k.n hlc w1
    rw [hrc] at h
    exact h
  have E0 : Hid (∀ w1, Below w.heap.size w w1 → Calls Tryd.prog 19 #[.slice none 0 0] w1 fun e w' => e = .returned (.agg #[.int .i64 0, .string ⟨#[]⟩, .int .i64 3]) ∧ Below w1.heap.size w1 w') := Lib.hid fun w1 h1 => either_nil w1 (hE.below h1)
  have J0 : Hid (∀ w1, Below w.heap.size w w1 → Calls Tryd.prog 20 #[.slice none 0 0] w1 fun e w' => e = .returned (.agg #[.int .i64 0, .string ⟨#[]⟩, .int .i64 3]) ∧ Below w1.heap.size w1 w') := Lib.hid fun w1 h1 => join_nil w1 (hE.below h1)
  have E1 : Hid (∀ w1 g, Below w.heap.size w w1 → g < w1.heap.size → TRow w1 g [a] → Calls Tryd.prog 19 #[.slice (some ⟨g, 0, none⟩) 1 1] w1 fun e w' => e = .returned (.agg #[.int .i64 ((eitherT [a, a]).k.i : Nat), .string (ba' (eitherT [a, a]).k.n), .int .i64 ((eitherT [a, a]).o : Nat)]) ∧ Below w1.heap.size w1 w') := Lib.hid fun w1 g h1 hg hr => by
    have h := either_t [a] (gt_one ha) 1 g rfl (by decide) w1 (hE.below h1) hr hg
    rw [show madeT (kAll [a] noK) (cAll orC [a] (2, 0)) = eitherT [a, a] from either1 ha] at h
    exact h
  have J1 : Hid (∀ w1 g, Below w.heap.size w w1 → g < w1.heap.size → TRow w1 g [a] → Calls Tryd.prog 20 #[.slice (some ⟨g, 0, none⟩) 1 1] w1 fun e w' => e = .returned (.agg #[.int .i64 ((joinT [emptyT, a]).k.i : Nat), .string (ba' (joinT [emptyT, a]).k.n), .int .i64 ((joinT [emptyT, a]).o : Nat)]) ∧ Below w1.heap.size w1 w') := Lib.hid fun w1 g h1 hg hr => by
    have h := join_t [a] (gt_one ha) 1 g rfl (by decide) w1 (hE.below h1) hr hg
    rw [show madeT (kAll [a] noK) (cAll plusC [a] (0, 0)) = joinT [emptyT, a] from join1 ha] at h
    exact h
  have T0a : Hid (∀ w1, Below w.heap.size w w1 → Calls Tryd.prog 21 #[.int .i64 0, .agg #[.int .i64 (a.k.i : Nat), .string (ba' a.k.n), .int .i64 (a.o : Nat)], .agg #[.int .i64 (a.k.i : Nat), .string (ba' a.k.n), .int .i64 (a.o : Nat)]] w1 fun e w' => e = .returned (.agg #[.int .i64 ((eitherT [a, a]).k.i : Nat), .string (ba' (eitherT [a, a]).k.n), .int .i64 ((eitherT [a, a]).o : Nat)]) ∧ Below w1.heap.size w1 w') := Lib.hid fun w1 _ => by
    have h := two0_ref a a ha ha w1
    rw [two0_is ha ha] at h
    exact h
  have T1a : Hid (∀ w1, Below w.heap.size w w1 → Calls Tryd.prog 21 #[.int .i64 1, .agg #[.int .i64 0, .string ⟨#[]⟩, .int .i64 3], .agg #[.int .i64 (a.k.i : Nat), .string (ba' a.k.n), .int .i64 (a.o : Nat)]] w1 fun e w' => e = .returned (.agg #[.int .i64 ((joinT [emptyT, a]).k.i : Nat), .string (ba' (joinT [emptyT, a]).k.n), .int .i64 ((joinT [emptyT, a]).o : Nat)]) ∧ Below w1.heap.size w1 w') := Lib.hid fun w1 _ => by
    have h := two1_ref emptyT a gt_empty ha w1
    rw [two1_is gt_empty ha] at h
    exact h
  have T0b : Hid (∀ w1, Below w.heap.size w w1 → Calls Tryd.prog 21 #[.int .i64 0, .agg #[.int .i64 (a.k.i : Nat), .string (ba' a.k.n), .int .i64 (a.o : Nat)], .agg #[.int .i64 (b.k.i : Nat), .string (ba' b.k.n), .int .i64 (b.o : Nat)]] w1 fun e w' => e = .returned (.agg #[.int .i64 ((eitherT [a, b]).k.i : Nat), .string (ba' (eitherT [a, b]).k.n), .int .i64 ((eitherT [a, b]).o : Nat)]) ∧ Below w1.heap.size w1 w') := Lib.hid fun w1 _ => by
    have h := two0_ref a b ha hb w1
    rw [two0_is ha hb] at h
    exact h
  have T0c : Hid (∀ w1, Below w.heap.size w w1 → Calls Tryd.prog 21 #[.int .i64 0, .agg #[.int .i64 ((eitherT [a, b]).k.i : Nat), .string (ba' (eitherT [a, b]).k.n), .int .i64 ((eitherT [a, b]).o : Nat)], .agg #[.int .i64 (c.k.i : Nat), .string (ba' c.k.n), .int .i64 (c.o : Nat)]] w1 fun e w' => e = .returned (.agg #[.int .i64 ((eitherT [eitherT [a, b], c]).k.i : Nat), .string (ba' (eitherT [eitherT [a, b], c]).k.n), .int .i64 ((eitherT [eitherT [a, b], c]).o : Nat)]) ∧ Below w1.heap.size w1 w') := Lib.hid fun w1 _ => by
    have h := two0_ref (eitherT [a, b]) c (gt_e' ha hb) hc w1
    rw [two0_is (gt_e' ha hb) hc] at h
    exact h
  have T1b : Hid (∀ w1, Below w.heap.size w w1 → Calls Tryd.prog 21 #[.int .i64 1, .agg #[.int .i64 (a.k.i : Nat), .string (ba' a.k.n), .int .i64 (a.o : Nat)], .agg #[.int .i64 (b.k.i : Nat), .string (ba' b.k.n), .int .i64 (b.o : Nat)]] w1 fun e w' => e = .returned (.agg #[.int .i64 ((joinT [a, b]).k.i : Nat), .string (ba' (joinT [a, b]).k.n), .int .i64 ((joinT [a, b]).o : Nat)]) ∧ Below w1.heap.size w1 w') := Lib.hid fun w1 _ => by
    have h := two1_ref a b ha hb w1
    rw [two1_is ha hb] at h
    exact h
  have T1c : Hid (∀ w1, Below w.heap.size w w1 → Calls Tryd.prog 21 #[.int .i64 1, .agg #[.int .i64 ((joinT [a, b]).k.i : Nat), .string (ba' (joinT [a, b]).k.n), .int .i64 ((joinT [a, b]).o : Nat)], .agg #[.int .i64 (c.k.i : Nat), .string (ba' c.k.n), .int .i64 (c.o : Nat)]] w1 fun e w' => e = .returned (.agg #[.int .i64 ((joinT [joinT [a, b], c]).k.i : Nat), .string (ba' (joinT [joinT [a, b], c]).k.n), .int .i64 ((joinT [joinT [a, b], c]).o : Nat)]) ∧ Below w1.heap.size w1 w') := Lib.hid fun w1 _ => by
    have h := two1_ref (joinT [a, b]) c (gt_j' ha hb) hc w1
    rw [two1_is (gt_j' ha hb) hc] at h
    exact h
  have T2 : Hid (∀ w1, Below w.heap.size w w1 → Calls Tryd.prog 21 #[.int .i64 2, .agg #[.int .i64 (a.k.i : Nat), .string (ba' a.k.n), .int .i64 (a.o : Nat)], .agg #[.int .i64 (b.k.i : Nat), .string (ba' b.k.n), .int .i64 (b.o : Nat)]] w1 fun e w' => e = .returned (.agg #[.int .i64 ((timesT a b).k.i : Nat), .string (ba' (timesT a b).k.n), .int .i64 ((timesT a b).o : Nat)]) ∧ Below w1.heap.size w1 w') := Lib.hid fun w1 _ => by
    have h := two2_ref a b ha hb w1
    rw [two2_is ha hb] at h
    exact h
  have S1 : Hid (∀ w1, Below w.heap.size w w1 → Calls Tryd.prog 22 #[.agg #[.int .i64 (a.k.i : Nat), .string (ba' a.k.n), .int .i64 (a.o : Nat)], .agg #[.int .i64 (b.k.i : Nat), .string (ba' b.k.n), .int .i64 (b.o : Nat)]] w1 fun e w' => e = .returned (.bool (subT a b)) ∧ Below w1.heap.size w1 w') := Lib.hid fun w1 h1 => sub_t a b ha hb w1 (hE.below h1)
  have S2 : Hid (∀ w1, Below w.heap.size w w1 → Calls Tryd.prog 23 #[.agg #[.int .i64 (a.k.i : Nat), .string (ba' a.k.n), .int .i64 (a.o : Nat)], .agg #[.int .i64 (b.k.i : Nat), .string (ba' b.k.n), .int .i64 (b.o : Nat)]] w1 fun e w' => e = .returned (.bool (subT a b)) ∧ Below w1.heap.size w1 w') := Lib.hid fun w1 _ => sub_ref a b ha hb w1
  have E3 : Hid (∀ w1 g, Below w.heap.size w w1 → g < w1.heap.size → TRow w1 g [a, b, c] → Calls Tryd.prog 19 #[.slice (some ⟨g, 0, none⟩) 3 3] w1 fun e w' => e = .returned (.agg #[.int .i64 ((eitherT [eitherT [a, b], c]).k.i : Nat), .string (ba' (eitherT [eitherT [a, b], c]).k.n), .int .i64 ((eitherT [eitherT [a, b], c]).o : Nat)]) ∧ Below w1.heap.size w1 w') := Lib.hid fun w1 g h1 hg hr => by
    have h := either_t [a, b, c] (gt_three ha hb hc) 3 g rfl (by decide) w1 (hE.below h1) hr hg
    rw [show madeT (kAll [a, b, c] noK) (cAll orC [a, b, c] (2, 0)) = eitherT [eitherT [a, b], c] from either3 ha hb hc] at h
    exact h
  have J3 : Hid (∀ w1 g, Below w.heap.size w w1 → g < w1.heap.size → TRow w1 g [a, b, c] → Calls Tryd.prog 20 #[.slice (some ⟨g, 0, none⟩) 3 3] w1 fun e w' => e = .returned (.agg #[.int .i64 ((joinT [joinT [a, b], c]).k.i : Nat), .string (ba' (joinT [joinT [a, b], c]).k.n), .int .i64 ((joinT [joinT [a, b], c]).o : Nat)]) ∧ Below w1.heap.size w1 w') := Lib.hid fun w1 g h1 hg hr => by
    have h := join_t [a, b, c] (gt_three ha hb hc) 3 g rfl (by decide) w1 (hE.below h1) hr hg
    rw [show madeT (kAll [a, b, c] noK) (cAll plusC [a, b, c] (0, 0)) = joinT [joinT [a, b], c] from join3 ha hb hc] at h
    exact h
  have Tm : Hid (∀ w1, Below w.heap.size w w1 → Calls Tryd.prog 24 #[.agg #[.int .i64 (a.k.i : Nat), .string (ba' a.k.n), .int .i64 (a.o : Nat)], .agg #[.int .i64 (b.k.i : Nat), .string (ba' b.k.n), .int .i64 (b.o : Nat)]] w1 fun e w' => e = .returned (.agg #[.int .i64 ((timesT a b).k.i : Nat), .string (ba' (timesT a b).k.n), .int .i64 ((timesT a b).o : Nat)]) ∧ Below w1.heap.size w1 w') := Lib.hid fun w1 _ => times_t a b ha hb w1
  obtain ⟨sb, hsb⟩ : ∃ s, subT a b = s := ⟨_, rfl⟩
  rw [hsb] at S1 S2
  clear hsb
  obtain ⟨⟨⟨zi, zn⟩, zo⟩, h⟩ : ∃ r, eitherT [eitherT [a, b], c] = r := ⟨_, rfl⟩
  rw [h] at T0c E3
  clear h
  obtain ⟨⟨⟨vi, vn⟩, vo⟩, h⟩ : ∃ r, joinT [joinT [a, b], c] = r := ⟨_, rfl⟩
  rw [h] at T1c J3
  clear h
  obtain ⟨⟨⟨xi, xn⟩, xo⟩, h⟩ : ∃ r, eitherT [a, b] = r := ⟨_, rfl⟩
  rw [h] at T0b T0c
  clear h
  obtain ⟨⟨⟨yi, yn⟩, yo⟩, h⟩ : ∃ r, joinT [a, b] = r := ⟨_, rfl⟩
  rw [h] at T1b T1c
  clear h
  obtain ⟨⟨⟨pi, pn⟩, po⟩, h⟩ : ∃ r, eitherT [a, a] = r := ⟨_, rfl⟩
  rw [h] at E1 T0a
  clear h
  obtain ⟨⟨⟨qi, qn⟩, qo⟩, h⟩ : ∃ r, joinT [emptyT, a] = r := ⟨_, rfl⟩
  rw [h] at J1 T1a
  clear h
  obtain ⟨⟨⟨ti, tn⟩, to⟩, h⟩ : ∃ r, timesT a b = r := ⟨_, rfl⟩
  rw [h] at T2 Tm
  clear h
  clear ha hb hc hra hrb hrc hE hla hlb hlc
  obtain ⟨⟨ai, an⟩, ao⟩ := a
  obtain ⟨⟨bi, bn⟩, bo⟩ := b
  obtain ⟨⟨ci, cn⟩, co⟩ := c
  simp only at *
  go_enter Tryd.func4, Tryd.ntmps4
  go_wp2_with fail
  refine (HA.out _ (by repeat (with_reducible (first | exact Below.refl _ _ | assumption | apply ba | apply bd | apply bdr | (refine bs ?_ (by first | assumption | (simp; done) | (simp; omega))) | (refine bt ?_ (by assumption)))))).mono ?_
  rintro e w1 ⟨rfl, hb1⟩
  have B1 : Below w.heap.size w w1 := (by repeat (with_reducible (first | exact Below.refl _ _ | assumption | apply ba | apply bd | apply bdr | (refine bs ?_ (by first | assumption | (simp; done) | (simp; omega))) | (refine bt ?_ (by assumption)))))
  have hc1_0 := fun o => (bcell hb1).1 (w.heap.size) o (by first | (simp; done) | assumption | (simp; omega))
  have zz1_0 : w.heap.size < w1.heap.size := zz hb1 (by first | (simp; done) | assumption | (simp; omega))
  have hc1_1 := fun o => (bcell hb1).1 (w.heap.size + 1) o (by first | (simp; done) | assumption | (simp; omega))
  have zz1_1 : w.heap.size + 1 < w1.heap.size := zz hb1 (by first | (simp; done) | assumption | (simp; omega))
  have hc1_2 := fun o => (bcell hb1).1 (w.heap.size + 1 + 1) o (by first | (simp; done) | assumption | (simp; omega))
  have zz1_2 : w.heap.size + 1 + 1 < w1.heap.size := zz hb1 (by first | (simp; done) | assumption | (simp; omega))
  go_wp2_with fail
  refine (HRa.out _).mono ?_
  rintro e w2 ⟨rfl, hb2⟩
  have B2 : Below w.heap.size w w2 := (by repeat (with_reducible (first | exact Below.refl _ _ | assumption | apply ba | apply bd | apply bdr | (refine bs ?_ (by first | assumption | (simp; done) | (simp; omega))) | (refine bt ?_ (by assumption)))))
  have hc2_0 := fun o => (bcell hb2).1 (w.heap.size) o (by first | (simp; done) | assumption | (simp; omega))
  have zz2_0 : w.heap.size < w2.heap.size := zz hb2 (by first | (simp; done) | assumption | (simp; omega))
  have hc2_1 := fun o => (bcell hb2).1 (w.heap.size + 1) o (by first | (simp; done) | assumption | (simp; omega))
  have zz2_1 : w.heap.size + 1 < w2.heap.size := zz hb2 (by first | (simp; done) | assumption | (simp; omega))
  have hc2_2 := fun o => (bcell hb2).1 (w.heap.size + 1 + 1) o (by first | (simp; done) | assumption | (simp; omega))
  have zz2_2 : w.heap.size + 1 + 1 < w2.heap.size := zz hb2 (by first | (simp; done) | assumption | (simp; omega))
  go_wp2_with fail
  refine (HRb.out _).mono ?_
  rintro e w3 ⟨rfl, hb3⟩
  have B3 : Below w.heap.size w w3 := (by repeat (with_reducible (first | exact Below.refl _ _ | assumption | apply ba | apply bd | apply bdr | (refine bs ?_ (by first | assumption | (simp; done) | (simp; omega))) | (refine bt ?_ (by assumption)))))
  have hc3_0 := fun o => (bcell hb3).1 (w.heap.size) o (by first | (simp; done) | assumption | (simp; omega))
  have zz3_0 : w.heap.size < w3.heap.size := zz hb3 (by first | (simp; done) | assumption | (simp; omega))
  have hc3_1 := fun o => (bcell hb3).1 (w.heap.size + 1) o (by first | (simp; done) | assumption | (simp; omega))
  have zz3_1 : w.heap.size + 1 < w3.heap.size := zz hb3 (by first | (simp; done) | assumption | (simp; omega))
  have hc3_2 := fun o => (bcell hb3).1 (w.heap.size + 1 + 1) o (by first | (simp; done) | assumption | (simp; omega))
  have zz3_2 : w.heap.size + 1 + 1 < w3.heap.size := zz hb3 (by first | (simp; done) | assumption | (simp; omega))
  go_wp2_with fail
  refine (HRc.out _).mono ?_
  rintro e w4 ⟨rfl, hb4⟩
  have B4 : Below w.heap.size w w4 := (by repeat (with_reducible (first | exact Below.refl _ _ | assumption | apply ba | apply bd | apply bdr | (refine bs ?_ (by first | assumption | (simp; done) | (simp; omega))) | (refine bt ?_ (by assumption)))))
  have hc4_0 := fun o => (bcell hb4).1 (w.heap.size) o (by first | (simp; done) | assumption | (simp; omega))
  have zz4_0 : w.heap.size < w4.heap.size := zz hb4 (by first | (simp; done) | assumption | (simp; omega))
  have hc4_1 := fun o => (bcell hb4).1 (w.heap.size + 1) o (by first | (simp; done) | assumption | (simp; omega))
  have zz4_1 : w.heap.size + 1 < w4.heap.size := zz hb4 (by first | (simp; done) | assumption | (simp; omega))
  have hc4_2 := fun o => (bcell hb4).1 (w.heap.size + 1 + 1) o (by first | (simp; done) | assumption | (simp; omega))
  have zz4_2 : w.heap.size + 1 + 1 < w4.heap.size := zz hb4 (by first | (simp; done) | assumption | (simp; omega))
  go_wp2
  have B5 : Below w.heap.size w (w4.alloc (.cells #[.int .i64 0, .string ⟨#[]⟩, .int .i64 3] 26)) := (by repeat (with_reducible (first | exact Below.refl _ _ | assumption | apply ba | apply bd | apply bdr | (refine bs ?_ (by first | assumption | (simp; done) | (simp; omega))) | (refine bt ?_ (by assumption)))))
  have a0 : (w4.alloc (.cells #[.int .i64 0, .string ⟨#[]⟩, .int .i64 3] 26)).cell? ⟨w.heap.size, 0, none⟩ = some (.int .i64 (ai : Nat)) := by first | assumption | (go_simp; done) | (go_simp; rfl) | (go_keep; done)
  have a1 : (w4.alloc (.cells #[.int .i64 0, .string ⟨#[]⟩, .int .i64 3] 26)).cell? ⟨w.heap.size, 1, none⟩ = some (.string (ba' an)) := by first | assumption | (go_simp; done) | (go_simp; rfl) | (go_keep; done)
  have a2 : (w4.alloc (.cells #[.int .i64 0, .string ⟨#[]⟩, .int .i64 3] 26)).cell? ⟨w.heap.size, 2, none⟩ = some (.int .i64 (ao : Nat)) := by first | assumption | (go_simp; done) | (go_simp; rfl) | (go_keep; done)
  have b0 : (w4.alloc (.cells #[.int .i64 0, .string ⟨#[]⟩, .int .i64 3] 26)).cell? ⟨(w.heap.size + 1), 0, none⟩ = some (.int .i64 (bi : Nat)) := by first | assumption | (go_simp; done) | (go_simp; rfl) | (go_keep; done)
  have b1 : (w4.alloc (.cells #[.int .i64 0, .string ⟨#[]⟩, .int .i64 3] 26)).cell? ⟨(w.heap.size + 1), 1, none⟩ = some (.string (ba' bn)) := by first | assumption | (go_simp; done) | (go_simp; rfl) | (go_keep; done)
  have b2 : (w4.alloc (.cells #[.int .i64 0, .string ⟨#[]⟩, .int .i64 3] 26)).cell? ⟨(w.heap.size + 1), 2, none⟩ = some (.int .i64 (bo : Nat)) := by first | assumption | (go_simp; done) | (go_simp; rfl) | (go_keep; done)
  have c0 : (w4.alloc (.cells #[.int .i64 0, .string ⟨#[]⟩, .int .i64 3] 26)).cell? ⟨(w.heap.size + 1 + 1), 0, none⟩ = some (.int .i64 (ci : Nat)) := by first | assumption | (go_simp; done) | (go_simp; rfl) | (go_keep; done)
  have c1 : (w4.alloc (.cells #[.int .i64 0, .string ⟨#[]⟩, .int .i64 3] 26)).cell? ⟨(w.heap.size + 1 + 1), 1, none⟩ = some (.string (ba' cn)) := by first | assumption | (go_simp; done) | (go_simp; rfl) | (go_keep; done)
  have c2 : (w4.alloc (.cells #[.int .i64 0, .string ⟨#[]⟩, .int .i64 3] 26)).cell? ⟨(w.heap.size + 1 + 1), 2, none⟩ = some (.int .i64 (co : Nat)) := by first | assumption | (go_simp; done) | (go_simp; rfl) | (go_keep; done)
  have d0 : (w4.alloc (.cells #[.int .i64 0, .string ⟨#[]⟩, .int .i64 3] 26)).cell? ⟨w4.heap.size, 0, none⟩ = some (.int .i64 0) := by first | assumption | (go_simp; done) | (go_simp; rfl) | (go_keep; done)
  have d1 : (w4.alloc (.cells #[.int .i64 0, .string ⟨#[]⟩, .int .i64 3] 26)).cell? ⟨w4.heap.size, 1, none⟩ = some (.string ⟨#[]⟩) := by first | assumption | (go_simp; done) | (go_simp; rfl) | (go_keep; done)
  have d2 : (w4.alloc (.cells #[.int .i64 0, .string ⟨#[]⟩, .int .i64 3] 26)).cell? ⟨w4.heap.size, 2, none⟩ = some (.int .i64 3) := by first | assumption | (go_simp; done) | (go_simp; rfl) | (go_keep; done)
  generalize (w4.alloc (.cells #[.int .i64 0, .string ⟨#[]⟩, .int .i64 3] 26)) = W5 at *
  clear hb1 hb2 hb3 hb4 B1 B2 B3 B4 hc1_0 hc1_1 hc1_2 hc2_0 hc2_1 hc2_2 hc3_0 hc3_1 hc3_2 hc4_0 hc4_1 hc4_2 HA HRa HRb HRc
  have HB5 := Lib.hid B5
  refine Ma4_region w.heap.size (w.heap.size + 1) (w.heap.size + 1 + 1) w4.heap.size ai ao an pi po pn qi qo qn W5 rfl rfl rfl rfl rfl (Below.refl _ _) a0 a1 a2 d0 d1 d2 (Lib.hid fun w1 h1 => E0.out w1 (bt HB5.out h1)) (Lib.hid fun w1 h1 => J0.out w1 (bt HB5.out h1)) (Lib.hid fun w1 g h1 hg hr => E1.out w1 g (bt HB5.out h1) hg hr) (Lib.hid fun w1 g h1 hg hr => J1.out w1 g (bt HB5.out h1) hg hr) (Lib.hid fun w1 h1 => T0a.out w1 (bt HB5.out h1)) (Lib.hid fun w1 h1 => T1a.out w1 (bt HB5.out h1)) ?_
  intro A6 w6 k1 k2 k54 k3 k4 k5 hb6
  go_wp2
  refine wp_cond_false k54 ?_
  go_wp2
  have a0x := cell_call a0 hb6
  have a1x := cell_call a1 hb6
  have a2x := cell_call a2 hb6
  have b0x := cell_call b0 hb6
  have b1x := cell_call b1 hb6
  have b2x := cell_call b2 hb6
  have c0x := cell_call c0 hb6
  have c1x := cell_call c1 hb6
  have c2x := cell_call c2 hb6
  have HB6 := Lib.hid (bt HB5.out hb6)
  clear a0 a1 a2 b0 b1 b2 c0 c1 c2 d0 d1 d2
  refine Ma6_region w.heap.size (w.heap.size + 1) (w.heap.size + 1 + 1) ai ao an bi bo bn ci co cn xi xo xn zi zo zn w6 (k2) k3 k4 k5 (Below.refl _ _) a0x a1x a2x b0x b1x b2x c0x c1x c2x (Lib.hid fun w1 h1 => T0b.out w1 (bt HB6.out h1)) (Lib.hid fun w1 h1 => T0c.out w1 (bt HB6.out h1)) ?_
  intro A7 w7 gx m1 m2 m3 m4 m5 m8 x0 x1 x2 hb7
  have a0 := cell_call a0x hb7
  have a1 := cell_call a1x hb7
  have a2 := cell_call a2x hb7
  have b0 := cell_call b0x hb7
  have b1 := cell_call b1x hb7
  have b2 := cell_call b2x hb7
  have c0 := cell_call c0x hb7
  have c1 := cell_call c1x hb7
  have c2 := cell_call c2x hb7
  have HB7 := Lib.hid (bt HB6.out hb7)
  clear a0x a1x a2x b0x b1x b2x c0x c1x c2x
  go_wp2
  refine Ma7_region w.heap.size (w.heap.size + 1) (w.heap.size + 1 + 1) ai ao an bi bo bn ci co cn yi yo yn vi vo vn (.pointer (some ⟨gx, 0, none⟩)) w7 m2 m3 m4 m5 m8 (Below.refl _ _) a0 a1 a2 b0 b1 b2 c0 c1 c2 (Lib.hid fun w1 h1 => T1b.out w1 (bt HB7.out h1)) (Lib.hid fun w1 h1 => T1c.out w1 (bt HB7.out h1)) ?_
  intro A8 w8 gy n1 n2 n3 n4 n5 n8 n9 y0 y1 y2 hb8
  have a0x := cell_call a0 hb8
  have a1x := cell_call a1 hb8
  have a2x := cell_call a2 hb8
  have b0x := cell_call b0 hb8
  have b1x := cell_call b1 hb8
  have b2x := cell_call b2 hb8
  have c0x := cell_call c0 hb8
  have c1x := cell_call c1 hb8
  have c2x := cell_call c2 hb8
  have x0x := cell_call x0 hb8
  have x1x := cell_call x1 hb8
  have x2x := cell_call x2 hb8
  have HB8 := Lib.hid (bt HB7.out hb8)
  go_wp2
  refine Ma8_region w.heap.size (w.heap.size + 1) (w.heap.size + 1 + 1) gx gy sb ai ao an bi bo bn ci co cn zi zo zn vi vo vn ti to tn w8 n2 n3 n4 n5 n8 n9 (Below.refl _ _) a0x a1x a2x b0x b1x b2x c0x c1x c2x x0x x1x x2x y0 y1 y2 (Lib.hid fun w1 h1 => S1.out w1 (bt HB8.out h1)) (Lib.hid fun w1 h1 => S2.out w1 (bt HB8.out h1)) (Lib.hid fun w1 g h1 hg hr => E3.out w1 g (bt HB8.out h1) hg hr) (Lib.hid fun w1 g h1 hg hr => J3.out w1 g (bt HB8.out h1) hg hr) (Lib.hid fun w1 h1 => Tm.out w1 (bt HB8.out h1)) (Lib.hid fun w1 h1 => T2.out w1 (bt HB8.out h1)) ?_
  intro A9 w9 o1 o2 o6 hb9
  go_wp2
  exact bodyPost_ret (v := .bool true) (by simp [results, Tryd.results4, go_sem, tmp' o6]) (by rw [o1, n1, m1, k1]) ⟨rfl, bt HB8.out hb9⟩
end Go.Proofs.YtjpopmgnhgancaaDoor
namespace Go.Proofs.YtjpopmgnhgancaaDoor
open Go.RowKit Go.Lib
set_option maxRecDepth 100000
theorem mix_law (ai ao bi bo ci co : Int) (an bn cn : List UInt8) (ha : an.length ≤ 1099511627776) (hb : bn.length ≤ 1099511627776) (hc : cn.length ≤ 1099511627776) (w : World) (hE : TE w) :
    Calls Tryd.prog 4 #[.agg #[.int .i64 ai, .string (ba' an), .int .i64 ao], .agg #[.int .i64 bi, .string (ba' bn), .int .i64 bo], .agg #[.int .i64 ci, .string (ba' cn), .int .i64 co]] w fun e w' => e = .returned (.bool true) ∧ Below w.heap.size w w' := by
  cases h1 : rightB ai an ao with
  | false => exact mix_not ai ao bi bo ci co an bn cn ha hb hc w hE (.inl h1)
  | true =>
    cases h2 : rightB bi bn bo with
    | false => exact mix_not ai ao bi bo ci co an bn cn ha hb hc w hE (.inr (.inl ⟨h1, h2⟩))
    | true =>
      cases h3 : rightB ci cn co with
      | false => exact mix_not ai ao bi bo ci co an bn cn ha hb hc w hE (.inr (.inr ⟨h1, h2, h3⟩))
      | true =>
        obtain ⟨⟨⟨i1, n1⟩, o1⟩, g1, rfl, rfl, rfl⟩ := right_gt h1
        obtain ⟨⟨⟨i2, n2⟩, o2⟩, g2, rfl, rfl, rfl⟩ := right_gt h2
        obtain ⟨⟨⟨i3, n3⟩, o3⟩, g3, rfl, rfl, rfl⟩ := right_gt h3
        have H := mix_right ⟨⟨i1, an⟩, o1⟩ ⟨⟨i2, bn⟩, o2⟩ ⟨⟨i3, cn⟩, o3⟩ g1 g2 g3 ha hb hc h1 h2 h3 w hE
        exact H
end Go.Proofs.YtjpopmgnhgancaaDoor
