/- Package deep at the example of the document: Merge and Join. No condition beyond what the theorems state. -/
import Derived.Test.YtnkodafhjcjpjaaDoorWords
import Derived.Test.YtnkodafhjcjpjaaDoorTrees
import Derived.Test.YtnkodafhjcjpjaaDoorShelf
import Derived.Test.YtnkodafhjcjpjaaDoorCopies
import Derived.Handy
namespace Go.Proofs.YtnkodafhjcjpjaaDoor
open Go.RowKit Go.Lib
set_option maxRecDepth 100000
set_option maxHeartbeats 8000000
theorem small_one : Gives 43 #[.int .i64 1] (.string ⟨#[49]⟩) := by
  intro w
  go_enter Tryd.func43, Tryd.ntmps43
  go_wp2
  go_ret
  exact ⟨rfl, Below.refl _ _⟩
theorem formatUint_one' : Gives 38 #[.int .u64 1, .int .i64 10] (.string ⟨#[49]⟩) := by
  have H := gives_unfold small_one
  intro w
  go_enter Tryd.func38, Tryd.ntmps38
  go_wp2_with fail
  refine (H.out.call _).mono ?_
  rintro e w1 ⟨rfl, hb⟩
  go_wp2
  go_ret
  exact ⟨rfl, hb⟩
theorem formatUint_one : Gives 33 #[.int .u64 1, .int .i64 10] (.string ⟨#[49]⟩) := by
  have H := gives_unfold formatUint_one'
  intro w
  go_enter Tryd.func33, Tryd.ntmps33
  go_wp2_with fail
  refine (H.out.call _).mono ?_
  rintro e w1 ⟨rfl, hb⟩
  go_wp2
  go_ret
  exact ⟨rfl, hb⟩
theorem formatBool_true' : Gives 35 #[.bool true] (.string ⟨#[116, 114, 117, 101]⟩) := by
  intro w
  go_enter Tryd.func35, Tryd.ntmps35
  go_wp2
  go_ret
  exact ⟨rfl, Below.refl _ _⟩
theorem formatBool_true : Gives 30 #[.bool true] (.string ⟨#[116, 114, 117, 101]⟩) := by
  have H := gives_unfold formatBool_true'
  intro w
  go_enter Tryd.func30, Tryd.ntmps30
  go_wp2_with fail
  refine (H.out.call _).mono ?_
  rintro e w1 ⟨rfl, hb⟩
  go_wp2
  go_ret
  exact ⟨rfl, hb⟩
theorem num_one : Gives 29 #[.agg #[.int .i64 1, .int .i64 1, .int .i64 0, .string ⟨#[]⟩, .bool false]] (.agg #[.int .i64 1, .int .i64 0]) := by
  intro w
  go_enter Tryd.func29, Tryd.ntmps29
  go_wp2
  refine bodyPost_ret (v := .agg #[.int .i64 1, .int .i64 0]) (by simp [results, Tryd.results29, go_sem, *]) rfl ⟨rfl, ?_⟩
  repeat (with_reducible (first | exact Below.refl _ _ | apply ba | (refine bs ?_ (by first | (simp; done) | (simp; omega)))))
theorem format_one : Gives 28 #[.agg #[.int .i64 1, .int .i64 0]] (.string ⟨#[49]⟩) := by
  have H := gives_unfold formatUint_one
  intro w
  go_enter Tryd.func28, Tryd.ntmps28
  go_upto_region 1 with fail
  go_quiet (fail)
  go_wp2_with fail
  refine (H.out.call _).mono ?_
  rintro e w1 ⟨rfl, hb⟩
  have h0 := fun o => (bcell hb).1 w.heap.size o (by simp)
  have B1 := Lib.hid (bt (bd (ba (Below.refl _ _))) hb)
  clear hb
  go_wp2
  go_ret
  exact ⟨rfl, B1.out⟩
theorem string_one : Gives 22 #[.agg #[.int .i64 1, .int .i64 1, .int .i64 0, .string ⟨#[]⟩, .bool false]] (.string ⟨#[49]⟩) := by
  have H := gives_unfold num_one
  have H2 := gives_unfold format_one
  intro w
  go_enter Tryd.func22, Tryd.ntmps22
  go_wp2_with fail
  refine (H.out.call _).mono ?_
  rintro e w1 ⟨rfl, hb⟩
  have B1 := Lib.hid (bt (ba (Below.refl _ _)) hb)
  clear hb
  go_wp2_with fail
  refine (H2.out.call _).mono ?_
  rintro e w2 ⟨rfl, hb⟩
  have B2 := Lib.hid (bt B1.out hb)
  clear hb
  go_wp2
  go_ret
  exact ⟨rfl, B2.out⟩
theorem string_true : Gives 22 #[.agg #[.int .i64 4, .int .i64 0, .int .i64 0, .string ⟨#[]⟩, .bool true]] (.string ⟨#[116, 114, 117, 101]⟩) := by
  have H := gives_unfold formatBool_true
  intro w
  go_enter Tryd.func22, Tryd.ntmps22
  go_wp2_with fail
  refine (H.out.call _).mono ?_
  rintro e w1 ⟨rfl, hb⟩
  have B1 := Lib.hid (bt (ba (Below.refl _ _)) hb)
  clear hb
  go_wp2
  go_ret
  exact ⟨rfl, B1.out⟩
end Go.Proofs.YtnkodafhjcjpjaaDoor
namespace Go.Proofs.YtnkodafhjcjpjaaDoor
open Go.RowKit Go.Lib
set_option maxRecDepth 100000
set_option maxHeartbeats 4000000
theorem bsize : (Tryd.prog.info? 54).map (·.size) = some 2 := by kernel_rfl
theorem blies : liesAt Tryd.prog Tryd.prog.depth 54 (2 / Tryd.prog.cellsOf 54) 0 54 1 = true := by kernel_rfl
theorem byte_info : (Tryd.prog.info? 5).map (fun i => (i.zero, i.size, i.bytes)) = some (some (.int .u8 0), 1, 1) := by kernel_rfl
theorem check_old (b : Nat) (w : World) (h0 : w.cell? ⟨b, 0, none⟩ = some (.pointer (some ⟨b, 0, none⟩))) :
    Calls Tryd.prog 32 #[.pointer (some ⟨b, 0, none⟩)] w fun e w' => e = .returned (.tuple #[]) ∧ w' = w := by
  obtain ⟨j, hj, _⟩ := Option.map_eq_some_iff.1 bsize
  go_enter Tryd.func32, Tryd.ntmps32
  go_wp2
  rw [Lib.run_neq_ptr_same w _ Tryd.underlying51 hj]
  go_wp2
  go_end0
  exact ⟨rfl, rfl⟩
theorem check_new (b : Nat) (w : World) (h0 : w.cell? ⟨b, 0, none⟩ = some (.pointer none)) (hsh : w.shape? b = some (54, 2)) (hfz : w.frozen? ⟨b, 0, none⟩ = false) :
    Calls Tryd.prog 32 #[.pointer (some ⟨b, 0, none⟩)] w fun e w' => e = .returned (.tuple #[]) ∧ w' = w.setCell ⟨b, 0, none⟩ (.pointer (some ⟨b, 0, none⟩)) := by
  obtain ⟨j, hj, hjs⟩ := Option.map_eq_some_iff.1 bsize
  go_enter Tryd.func32, Tryd.ntmps32
  go_wp2
  rw [Lib.run_to_unsafe w ⟨b, 0, none⟩ Tryd.underlying51 Tryd.underlying70 hj (by rw [hjs]; decide) hsh (Nat.zero_lt_succ 1)]
  simp only [Result.andThen]
  rw [Oper.upon_value]
  go_wp2
  rw [run_callFunc_extern Tryd.func37 (by kernel_rfl) (by kernel_rfl) (by kernel_rfl) (e := Extern.AbiNoEscape.same) (by kernel_rfl)]
  rw [Lib.run_noEscape]
  simp only [Result.andThen]
  rw [Oper.upon_value]
  go_wp2
  rw [Lib.run_from_unsafe w ⟨b, 0, none⟩ Tryd.underlying70 Tryd.underlying51 hj hsh blies]
  simp only [Result.andThen]
  rw [Oper.upon_value]
  go_wp2
  go_end0
  exact ⟨rfl, rfl⟩
theorem check_any (B b : Nat) (bs : List Value) (w : World) (h : Lib.IsBuilder 54 5 B b bs w) :
    Calls Tryd.prog 32 #[.pointer (some ⟨b, 0, none⟩)] w fun e w' => e = .returned (.tuple #[]) ∧ Lib.BuilderAt 54 5 B b (.pointer (some ⟨b, 0, none⟩)) bs w' ∧ Below B w w' := by
  rcases h with h | h
  · exact (check_new b w h.cell0 h.shape h.frozen0).mono fun e w' ⟨h1, h2⟩ => by subst h1 h2; exact ⟨rfl, h.used _, (Below.refl B w).setCell (p := ⟨b, 0, none⟩) h.1 _⟩
  · exact (check_old b w h.cell0).mono fun e w' ⟨h1, h2⟩ => by subst h1 h2; exact ⟨rfl, h, Below.refl B _⟩
theorem write_any (B b : Nat) (bs : List Value) (s : ByteArray) (w : World) (h : Lib.IsBuilder 54 5 B b bs w) (hlen : bs.length + s.size ≤ 140737488355328) (hBw : B ≤ w.heap.size) :
    Calls Tryd.prog 26 #[.pointer (some ⟨b, 0, none⟩), .string s] w fun e w' => e = .returned (.tuple #[.int .i64 s.size, .nilIface]) ∧ Lib.BuilderAt 54 5 B b (.pointer (some ⟨b, 0, none⟩)) (bs ++ Lib.strCells s) w' ∧ Below B w w' := by
  obtain ⟨i0, hi, hz0, hz1, hz2⟩ := info_parts byte_info
  have e28 : ∀ args w, (callFunc 32 args).run Tryd.prog w = .ok (.enter 32 args) w := enters_of Tryd.func32 (by kernel_rfl) rfl
  go_enter Tryd.func26, Tryd.ntmps26
  go_wp2_with (go_at_fn 32; refine (check_any B b bs _ h).mono ?_)
  rintro e w1 ⟨rfl, h1, hb1⟩
  obtain ⟨hB, v, hbk, hown, hne⟩ := h1
  have c0 : w1.cell? ⟨b, 0, none⟩ = some (.pointer (some ⟨b, 0, none⟩)) := by rw [Lib.cell_of_heap hbk]; rfl
  have c1 : w1.cell? ⟨b, 1, none⟩ = some v := by rw [Lib.cell_of_heap hbk]; rfl
  have y1 := hb1.size
  go_wp2_with (at_builtin; refine Lib.wpList_append_own_string _ rfl _ _ 52 9 rfl B 5 i0 Tryd.underlying52 Tryd.underlying9 hi hz0 hz1 hz2 _ _ _ rfl hown s rfl (by unfold maxLen; omega) (by omega) (by omega) ?_)
  intro v2 w2 hown2 hgrow _
  have hlt : b < w1.heap.size := (Array.getElem?_eq_some_iff.1 hbk).1
  have hb2 : w2.heap[b]? = some (.cells #[.pointer (some ⟨b, 0, none⟩), v] 54 (0, 0)) := (hgrow.block b hlt (fun e => hne e.symm)).trans hbk
  have d0 : w2.cell? ⟨b, 0, none⟩ = some (.pointer (some ⟨b, 0, none⟩)) := by rw [Lib.cell_of_heap hb2]; rfl
  have d1 : w2.cell? ⟨b, 1, none⟩ = some v := by rw [Lib.cell_of_heap hb2]; rfl
  have f1 : w2.frozen? ⟨b, 1, none⟩ = false := Lib.frozen_of_heap hb2 1
  obtain ⟨A2, c2, rfl⟩ := own_slice hown2
  go_wp2
  go_ret2
  refine ⟨rfl, ?_, ?_⟩
  · exact Lib.BuilderAt.put (T := 54) (e := 5) hB hb2 (bs' := bs ++ Lib.strCells s) (by simpa [Lib.strCells_length] using hown2) (by decide)
  · exact (hb1.grown hgrow (by omega) (fun k hk => (own_lt hown hk).1)).setCell (p := ⟨b, 1, none⟩) hB _
end Go.Proofs.YtnkodafhjcjpjaaDoor
namespace Go.Proofs.YtnkodafhjcjpjaaDoor
open Go.RowKit Go.Lib
set_option maxRecDepth 100000
set_option maxHeartbeats 8000000
theorem info_tree : ∃ i, Tryd.prog.info? 26 = some i ∧ i.zero = some (.agg #[.int .i64 0, .string ⟨#[]⟩, .string ⟨#[]⟩, .slice none 0 0, .slice none 0 0]) ∧ i.size = 5 ∧ i.bytes = 88 := by
  obtain ⟨i5, hi5, hz50, hz51, hz52⟩ := info_parts tree_info
  exact ⟨i5, hi5, hz50, hz51, hz52⟩
theorem texts_ex (b c : Nat) (w : World) (h0 : w.cell? ⟨b, 0, none⟩ = some (.int .i64 4)) (h1 : w.cell? ⟨b, 5, none⟩ = some (.int .i64 4)) :
    Calls Tryd.prog 20 #[.slice (some ⟨b, 0, none⟩) 2 c] w fun e w' => e = .returned (.int .i64 2) ∧ Below w.heap.size w w' := by
  go_enter Tryd.func20, Tryd.ntmps20
  go_wp2
  go_rounds 3
  go_ret
  exact ⟨rfl, Below.refl _ _⟩
theorem fresh_ex (v : ByteArray) (w : World) :
    Calls Tryd.prog 19 #[.agg #[.int .i64 4, .string ⟨#[]⟩, .string v, .slice none 0 0, .slice none 0 0]] w fun e w' => e = .returned (.agg #[.int .i64 4, .string ⟨#[]⟩, .string v, .slice none 0 0, .slice none 0 0]) ∧ Below w.heap.size w w' := by
  go_enter Tryd.func19, Tryd.ntmps19
  go_wp2
  go_rounds 1
  refine bodyPost_ret (v := .agg #[.int .i64 4, .string ⟨#[]⟩, .string v, .slice none 0 0, .slice none 0 0]) (by simp [results, Tryd.results19, go_sem, *]) rfl ⟨rfl, ?_⟩
  repeat (with_reducible (first | exact Below.refl _ _ | apply ba | (refine bs ?_ (by first | (simp; done) | (simp; omega)))))
theorem builder_carry {B b : Nat} {bs : List Value} {w w' : World} (h : Lib.IsBuilder 54 5 B b bs w) (hb : Below w.heap.size w w') : Lib.IsBuilder 54 5 B b bs w' := by
  have one : ∀ p, Lib.BuilderAt 54 5 B b p bs w → Lib.BuilderAt 54 5 B b p bs w' := fun p ⟨h1, v, h2, h3, h4⟩ =>
    ⟨h1, v, (hb.block b ((Array.getElem?_eq_some_iff.1 h2).1)).trans h2, own_below h3 hb, h4⟩
  exact h.elim (fun h => .inl (one _ h)) (fun h => .inr (one _ h))
theorem values_ex (b c : Nat) (w : World) (hb : b < w.heap.size) (h0 : w.cell? ⟨b, 0, none⟩ = some (.int .i64 4)) (h1 : w.cell? ⟨b, 1, none⟩ = some (.string ⟨#[]⟩)) (h2 : w.cell? ⟨b, 2, none⟩ = some (.string ⟨#[120]⟩)) (h3 : w.cell? ⟨b, 3, none⟩ = some (.slice none 0 0)) (h4 : w.cell? ⟨b, 4, none⟩ = some (.slice none 0 0))
    (h5 : w.cell? ⟨b, 5, none⟩ = some (.int .i64 4)) (h6 : w.cell? ⟨b, 6, none⟩ = some (.string ⟨#[]⟩)) (h7 : w.cell? ⟨b, 7, none⟩ = some (.string ⟨#[121]⟩)) (h8 : w.cell? ⟨b, 8, none⟩ = some (.slice none 0 0)) (h9 : w.cell? ⟨b, 9, none⟩ = some (.slice none 0 0)) :
    Calls Tryd.prog 21 #[.slice (some ⟨b, 0, none⟩) 2 c] w fun e w' => e = .returned (.string ⟨#[120, 121]⟩) ∧ Below w.heap.size w w' := by
  have HB0 : Hid (Lib.IsBuilder 54 5 w.heap.size w.heap.size [] (w.alloc (.cells #[.pointer none, .slice none 0 0] 54))) := Lib.hid (Lib.fresh_isBuilder 54 5 w)
  go_enter Tryd.func21, Tryd.ntmps21
  go_wp2
  refine wp_loop_rounds 3 ?_
  rw [rounds_succ]
  go_wp2_with fail
  refine (write_any w.heap.size w.heap.size [] ⟨#[120]⟩ _ (builder_carry HB0.out (ba (Below.refl _ _))) (by decide) (by simp; omega)).mono ?_
  rintro e w1 ⟨rfl, hB1, hb1⟩
  have HB1 : Hid (Below w.heap.size w w1) := Lib.hid ((ba (ba (Below.refl _ _))).trans hb1)
  have HW1 := Lib.hid hB1
  have z1 : w.heap.size + 1 < w1.heap.size := by have := hb1.size; simp at this; omega
  have g := fun o => HB1.out.cell (p := ⟨b, o, none⟩) hb
  have e5 := (g 5).trans h5
  have e6 := (g 6).trans h6
  have e7 := (g 7).trans h7
  have e8 := (g 8).trans h8
  have e9 := (g 9).trans h9
  have hb' : b < w1.heap.size := by omega
  clear hB1 hb1 g HB0
  go_wp2
  rw [rounds_succ]
  go_wp2_with fail
  refine (write_any w.heap.size w.heap.size _ ⟨#[121]⟩ _ (builder_carry (.inr HW1.out) (ba (Below.refl _ _))) (by decide) (by simp; omega)).mono ?_
  rintro e w2 ⟨rfl, hB2, hb2⟩
  have HB2 : Hid (Below w.heap.size w w2) := Lib.hid ((HB1.out.alloc (by omega) _).trans hb2)
  have HW2 := Lib.hid hB2
  clear hB2 hb2
  go_wp2
  rw [rounds_succ]
  go_wp2_with fail
  refine (Tryd.Builder_String_any w.heap.size w.heap.size [120, 121] _ (.inr HW2.out) HB2.out.size).mono ?_
  rintro e w3 ⟨rfl, hb3⟩
  have HB3 : Hid (Below w.heap.size w w3) := Lib.hid (HB2.out.trans hb3)
  clear hb3
  go_wp2
  go_ret
  exact ⟨rfl, HB3.out⟩
end Go.Proofs.YtnkodafhjcjpjaaDoor
namespace Go.Proofs.YtnkodafhjcjpjaaDoor
open Go.RowKit Go.Lib
set_option maxRecDepth 100000
set_option maxHeartbeats 8000000
theorem five_at (w : World) (g : Nat) (hg : g = w.heap.size) (x0 x1 x2 x3 x4 : Value) (t : TypeId) : ∀ j u, [x0, x1, x2, x3, x4][j]? = some u → (w.alloc (.cells #[x0, x1, x2, x3, x4] t)).cell? ((⟨g, 0, none⟩ : Addr).add j) = some u := by
  subst hg
  exact five_new w x0 x1 x2 x3 x4 t
def tX (l : List UInt8) : Tr := .mk 4 [] l none 0 [] none 0 []
theorem full_ex (b c : Nat) (w : World) (hb : b < w.heap.size) (h0 : w.cell? ⟨b, 0, none⟩ = some (.int .i64 4)) (h1 : w.cell? ⟨b, 1, none⟩ = some (.string ⟨#[]⟩)) (h2 : w.cell? ⟨b, 2, none⟩ = some (.string ⟨#[120]⟩)) (h3 : w.cell? ⟨b, 3, none⟩ = some (.slice none 0 0)) (h4 : w.cell? ⟨b, 4, none⟩ = some (.slice none 0 0))
    (h5 : w.cell? ⟨b, 5, none⟩ = some (.int .i64 4)) (h6 : w.cell? ⟨b, 6, none⟩ = some (.string ⟨#[]⟩)) (h7 : w.cell? ⟨b, 7, none⟩ = some (.string ⟨#[]⟩)) (h8 : w.cell? ⟨b, 8, none⟩ = some (.slice none 0 0)) (h9 : w.cell? ⟨b, 9, none⟩ = some (.slice none 0 0))
    (h10 : w.cell? ⟨b, 10, none⟩ = some (.int .i64 4)) (h11 : w.cell? ⟨b, 11, none⟩ = some (.string ⟨#[]⟩)) (h12 : w.cell? ⟨b, 12, none⟩ = some (.string ⟨#[121]⟩)) (h13 : w.cell? ⟨b, 13, none⟩ = some (.slice none 0 0)) (h14 : w.cell? ⟨b, 14, none⟩ = some (.slice none 0 0)) :
    Calls Tryd.prog 18 #[.slice (some ⟨b, 0, none⟩) 3 c] w fun e w' => ∃ A cc, e = .returned (.slice A 2 cc) ∧ w'.ownsRow w.heap.size 26 5 (.slice A 2 cc) 2 (rowT [tX [120], tX [121]]) ∧ Below w.heap.size w w' := by
  obtain ⟨i5, hi5, hz50, hz51, hz52⟩ := info_parts tree_info
  go_enter Tryd.func18, Tryd.ntmps18
  go_wp2
  refine wp_loop_rounds 4 ?_
  rw [rounds_succ]
  go_wp2_with (at_builtin
               go_must (refine wpList_append_any _ rfl (.tmp 20) (.tmp 22) _ rfl w.heap.size 26 i5 _ 5 88 Tryd.underlying24 hi5 hz50 hz51 hz52 rfl (by omega) (.slice none 0 0) 0 [] rfl (World.ownsRow_nil _ _ _ _) (w.heap.size + 2) (some ⟨w.heap.size + 1, 0, none⟩) 1 1 (tX [120]).cells rfl ⟨rfl, fun _ => ⟨_, rfl, by simp, ?_⟩⟩ (cells_one _) (by simp only [maxLen]; omega) (by omega) (by simp; omega) ?_))
  · exact five_at _ _ (by simp) _ _ _ _ _ _
  intro v1 w1 hown hg _
  obtain ⟨A1, c1, rfl⟩ := own_slice hown
  have HB1 : Hid (Below w.heap.size w w1) := Lib.hid (Below.grown (ba (ba (Below.refl _ _))) hg (by simp; omega) (fun k hk => by cases hk))
  have HO1 := Lib.hid hown
  have z1 : w.heap.size + 1 < w1.heap.size := by have := hg.size; simp at this; omega
  have g := fun o => HB1.out.cell (p := ⟨b, o, none⟩) hb
  have e5 := (g 5).trans h5
  have e6 := (g 6).trans h6
  have e7 := (g 7).trans h7
  have e8 := (g 8).trans h8
  have e9 := (g 9).trans h9
  have e10 := (g 10).trans h10
  have e11 := (g 11).trans h11
  have e12 := (g 12).trans h12
  have e13 := (g 13).trans h13
  have e14 := (g 14).trans h14
  have hb' : b < w1.heap.size := by omega
  clear g hg hown
  go_wp2
  rw [rounds_succ]
  go_wp2
  rw [rounds_succ]
  go_wp2_with (at_builtin
               go_must (refine wpList_append_any _ rfl (.tmp 20) (.tmp 22) _ rfl w.heap.size 26 i5 _ 5 88 Tryd.underlying24 hi5 hz50 hz51 hz52 rfl (by omega) (.slice A1 1 c1) 1 (tX [120]).cells rfl (((own_below HO1.out (ba (Below.refl _ _))).alloc _).alloc _) (w1.heap.size + 3) (some ⟨w1.heap.size + 2, 0, none⟩) 1 1 (tX [121]).cells rfl ⟨rfl, fun _ => ⟨_, rfl, by simp, ?_⟩⟩ (cells_one _) (by simp only [maxLen]; omega) (by omega) (by simp; omega) ?_))
  · exact five_at _ _ (by simp) _ _ _ _ _ _
  intro v2 w2 hown2 hg2 _
  obtain ⟨A2, c2, rfl⟩ := own_slice hown2
  have HB2 : Hid (Below w.heap.size w w2) := Lib.hid (Below.grown ((((HB1.out).alloc (by omega) _).alloc (by simp; omega) _).alloc (by simp; omega) _) hg2 (by simp; omega) (fun k hk => (own_lt HO1.out hk).1))
  have HO2 := Lib.hid hown2
  clear hown2 hg2
  go_wp2
  rw [rounds_succ]
  go_wp2
  go_ret
  exact ⟨A2, c2, rfl, HO2.out, HB2.out⟩
theorem row_cells {w : World} {base n : Nat} {A : Option Addr} {c : Nat} {xs : List Value} (h : w.ownsRow base 26 5 (.slice A n c) n xs) (hn : 0 < n) : ∃ g, A = some ⟨g, 0, none⟩ ∧ base ≤ g ∧ g < w.heap.size ∧ n ≤ c ∧ c ≤ maxLen ∧ ∀ j u, xs[j]? = some u → w.cell? ⟨g, j, none⟩ = some u := by
  rcases h.2 with ⟨h1, h2⟩ | ⟨g, cap, cur, e, hb, hh, hc, hm, hs, ht⟩
  · cases h1; omega
  · cases e
    refine ⟨g, rfl, hb, (Array.getElem?_eq_some_iff.1 hh).1, hc, hm, fun j u hu => ?_⟩
    rw [← ht, List.getElem?_take] at hu
    split at hu
    · unfold World.cell?
      rw [hh]
      simpa using hu
    · cases hu
theorem merge_ex (b c : Nat) (w : World) (hb : b < w.heap.size) (h0 : w.cell? ⟨b, 0, none⟩ = some (.int .i64 4)) (h1 : w.cell? ⟨b, 1, none⟩ = some (.string ⟨#[]⟩)) (h2 : w.cell? ⟨b, 2, none⟩ = some (.string ⟨#[120]⟩)) (h3 : w.cell? ⟨b, 3, none⟩ = some (.slice none 0 0)) (h4 : w.cell? ⟨b, 4, none⟩ = some (.slice none 0 0))
    (h5 : w.cell? ⟨b, 5, none⟩ = some (.int .i64 4)) (h6 : w.cell? ⟨b, 6, none⟩ = some (.string ⟨#[]⟩)) (h7 : w.cell? ⟨b, 7, none⟩ = some (.string ⟨#[]⟩)) (h8 : w.cell? ⟨b, 8, none⟩ = some (.slice none 0 0)) (h9 : w.cell? ⟨b, 9, none⟩ = some (.slice none 0 0))
    (h10 : w.cell? ⟨b, 10, none⟩ = some (.int .i64 4)) (h11 : w.cell? ⟨b, 11, none⟩ = some (.string ⟨#[]⟩)) (h12 : w.cell? ⟨b, 12, none⟩ = some (.string ⟨#[121]⟩)) (h13 : w.cell? ⟨b, 13, none⟩ = some (.slice none 0 0)) (h14 : w.cell? ⟨b, 14, none⟩ = some (.slice none 0 0)) :
    Calls Tryd.prog 10 #[.slice (some ⟨b, 0, none⟩) 3 c] w fun e w' => ∃ g cc, e = .returned (.slice (some ⟨g, 0, none⟩) 1 cc) ∧ w.heap.size ≤ g ∧ g < w'.heap.size ∧ w'.cell? ⟨g, 2, none⟩ = some (.string ⟨#[120, 121]⟩) ∧ Below w.heap.size w w' := by
  obtain ⟨i5, hi5, hz50, hz51, hz52⟩ := info_parts tree_info
  have HF := Lib.hid (full_ex b c w hb h0 h1 h2 h3 h4 h5 h6 h7 h8 h9 h10 h11 h12 h13 h14)
  clear h0 h1 h2 h3 h4 h5 h6 h7 h8 h9 h10 h11 h12 h13 h14
  go_enter Tryd.func10, Tryd.ntmps10
  go_wp2_with fail
  refine HF.out.mono ?_
  rintro e w1 ⟨A, cc, rfl, hown, hb1⟩
  obtain ⟨g, rfl, hg0, hg1, hgc, hgm, hg⟩ := row_cells hown (by omega)
  have HB1 := Lib.hid hb1
  have k0 := hg 0 _ rfl
  have k1 := hg 1 _ rfl
  have k2 := hg 2 _ rfl
  have k3 := hg 3 _ rfl
  have k4 := hg 4 _ rfl
  have k5 := hg 5 _ rfl
  have k6 := hg 6 _ rfl
  have k7 := hg 7 _ rfl
  have k8 := hg 8 _ rfl
  have k9 := hg 9 _ rfl
  simp only [ba', List.length_nil] at k0 k1 k2 k3 k4 k5 k6 k7 k8 k9
  have hcc : (2 : Int) ≤ (cc : Int) := by omega
  have z1 := hb1.size
  clear hown hg hb1 HF
  go_wp2
  refine wp_loop_rounds 2 ?_
  rw [rounds_succ]
  go_wp2_with fail
  refine (fresh_ex ⟨#[120]⟩ w1).mono ?_
  rintro e w2 ⟨rfl, hb2⟩
  have z2 := hb2.size
  obtain ⟨V, hV⟩ : ∃ V, w2.alloc (.cells #[.int .i64 4, .string ⟨#[]⟩, .string ⟨#[120]⟩, .slice none 0 0, .slice none 0 0] 26) = V := ⟨_, rfl⟩
  have hVb : Below w2.heap.size w2 V := by rw [← hV]; exact ba (Below.refl _ _)
  have hVz : V.heap.size = w2.heap.size + 1 := by rw [← hV]; simp
  have hgV := fun o => ((hb2.trans (hVb.mono z2)).cell (p := ⟨g, o, none⟩) hg1)
  have HT : Hid (∀ W, Below V.heap.size V W → Calls Tryd.prog 20 #[.slice (some ⟨g, 0, none⟩) 2 cc] W fun e w' => e = .returned (.int .i64 2) ∧ Below W.heap.size W w') := Lib.hid fun W hW =>
    texts_ex g cc W ((hW.cell (p := ⟨g, 0, none⟩) (by simp only; omega)).trans ((hgV 0).trans k0)) ((hW.cell (p := ⟨g, 5, none⟩) (by simp only; omega)).trans ((hgV 5).trans k5))
  have HVL : Hid (∀ W, Below V.heap.size V W → Calls Tryd.prog 21 #[.slice (some ⟨g, 0, none⟩) 2 cc] W fun e w' => e = .returned (.string ⟨#[120, 121]⟩) ∧ Below W.heap.size W w') := Lib.hid fun W hW => by
    have f := fun o => (hW.cell (p := ⟨g, o, none⟩) (by simp only; omega)).trans (hgV o)
    exact values_ex g cc W (by have := hW.size; omega) ((f 0).trans k0) ((f 1).trans k1) ((f 2).trans k2) ((f 3).trans k3) ((f 4).trans k4) ((f 5).trans k5) ((f 6).trans k6) ((f 7).trans k7) ((f 8).trans k8) ((f 9).trans k9)
  have HBV : Hid (Below w.heap.size w V) := Lib.hid ((HB1.out.trans (hb2.mono z1)).trans (hVb.mono (by omega)))
  clear hgV k0 k1 k2 k3 k4 k5 k6 k7 k8 k9 hb2 hVb
  have q0 : V.cell? ⟨w2.heap.size, 0, none⟩ = some (.int .i64 4) := by rw [← hV]; simp
  have q1 : V.cell? ⟨w2.heap.size, 1, none⟩ = some (.string ⟨#[]⟩) := by rw [← hV]; simp
  have q2 : V.cell? ⟨w2.heap.size, 2, none⟩ = some (.string ⟨#[120]⟩) := by rw [← hV]; simp
  have q3 : V.cell? ⟨w2.heap.size, 3, none⟩ = some (.slice none 0 0) := by rw [← hV]; simp
  have q4 : V.cell? ⟨w2.heap.size, 4, none⟩ = some (.slice none 0 0) := by rw [← hV]; simp
  have qf : V.frozen? ⟨w2.heap.size, 2, none⟩ = false := by rw [← hV]; simp
  have HV := Lib.hid hV
  clear hV
  go_wp2_with fail
  refine (HT.out (w2.alloc (.cells #[.int .i64 4, .string ⟨#[]⟩, .string ⟨#[120]⟩, .slice none 0 0, .slice none 0 0] 26)) (by rw [HV.out]; exact Below.refl _ _)).mono ?_
  rintro e w3 ⟨rfl, hb3⟩
  rw [HV.out] at hb3
  have z3 := hb3.size
  have HB3 : Hid (Below w.heap.size w w3) := Lib.hid (bt HBV.out hb3)
  have f3 := fun o => hb3.cell (p := ⟨w2.heap.size, o, none⟩) (by simp only; omega)
  have p0 := (f3 0).trans q0
  have p1 := (f3 1).trans q1
  have p2 := (f3 2).trans q2
  have p3 := (f3 3).trans q3
  have p4 := (f3 4).trans q4
  have HB3' := Lib.hid hb3
  have pf := (hb3.frozen (p := ⟨w2.heap.size, 2, none⟩) (by simp only; omega)).trans qf
  clear f3 q0 q1 q2 q3 q4 qf hb3
  go_wp2_with fail
  refine (HVL.out _ HB3'.out).mono ?_
  rintro e w4 ⟨rfl, hb4⟩
  have z4 := hb4.size
  have HB4 : Hid (Below w.heap.size w w4) := Lib.hid (bt HB3.out hb4)
  have f4 := fun o => hb4.cell (p := ⟨w2.heap.size, o, none⟩) (by simp only; omega)
  have r0 := (f4 0).trans p0
  have r1 := (f4 1).trans p1
  have r2 := (f4 2).trans p2
  have r3 := (f4 3).trans p3
  have r4 := (f4 4).trans p4
  have rf := (hb4.frozen (p := ⟨w2.heap.size, 2, none⟩) (by simp only; omega)).trans pf
  have zz4 : w2.heap.size < w4.heap.size := by omega
  have zw : w.heap.size ≤ w2.heap.size := by omega
  clear f4 p0 p1 p2 p3 p4 pf hb4 HT HVL
  go_wp2_with (at_builtin
               go_must (refine wpList_append_any _ rfl (.tmp 25) (.tmp 27) _ rfl w.heap.size 26 i5 _ 5 88 Tryd.underlying24 hi5 hz50 hz51 hz52 rfl (by omega) (.slice none 0 0) 0 [] rfl (World.ownsRow_nil _ _ _ _) (w4.heap.size + 1) (some ⟨w4.heap.size, 0, none⟩) 1 1 (tX [120, 121]).cells rfl ⟨rfl, fun _ => ⟨_, rfl, by simp, ?_⟩⟩ (cells_one _) (by simp only [maxLen]; omega) (by omega) (by simp; omega) ?_))
  · exact five_at _ _ (by simp) _ _ _ _ _ _
  intro v5 w5 hown5 hg5 _
  obtain ⟨A5, c5, rfl⟩ := own_slice hown5
  have HB5 : Hid (Below w.heap.size w w5) := Lib.hid (Below.grown (((HB4.out).setCell (p := ⟨w2.heap.size, 2, none⟩) zw _).alloc (by simp; omega) _) hg5 (by simp; omega) (fun k hk => by cases hk))
  have HO5 := Lib.hid hown5
  clear hown5 hg5
  go_wp2
  all_goals
    rw [rounds_succ]
    go_wp2
    go_ret
    obtain ⟨g5, e5, hg0', hg1', _, _, hcells⟩ := row_cells HO5.out (by omega)
    cases e5
    exact ⟨g5, c5, rfl, hg0', hg1', hcells 2 _ rfl, HB5.out⟩
end Go.Proofs.YtnkodafhjcjpjaaDoor
namespace Go.Proofs.YtnkodafhjcjpjaaDoor
open Go.RowKit Go.Lib
set_option maxRecDepth 100000
set_option maxHeartbeats 8000000
theorem str_info : (Tryd.prog.info? 9).map (fun i => (i.zero, i.size, i.bytes)) = some (some (.string ⟨#[]⟩), 1, 16) := by kernel_rfl
theorem one_at (w : World) (g : Nat) (hg : g = w.heap.size) (x0 : Value) (t : TypeId) : ∀ j u, [x0][j]? = some u → (w.alloc (.cells #[x0] t)).cell? ((⟨g, 0, none⟩ : Addr).add j) = some u := by
  subst hg
  intro j u hu
  have h := heap_alloc_new w (.cells #[x0] t)
  have hj : ((⟨w.heap.size, 0, none⟩ : Addr).add j) = ⟨w.heap.size, j, none⟩ := by unfold Addr.add; split <;> simp_all
  rw [hj]
  unfold World.cell?
  rw [h]
  simpa using hu
theorem row_cells1 {w : World} {base n : Nat} {A : Option Addr} {c : Nat} {xs : List Value} (h : w.ownsRow base 9 1 (.slice A n c) n xs) (hn : 0 < n) : ∃ g, A = some ⟨g, 0, none⟩ ∧ base ≤ g ∧ g < w.heap.size ∧ n ≤ c ∧ c ≤ maxLen ∧ ∀ j u, xs[j]? = some u → w.cell? ⟨g, j, none⟩ = some u := by
  rcases h.2 with ⟨h1, h2⟩ | ⟨g, cap, cur, e, hb, hh, hc, hm, hs, ht⟩
  · cases h1; omega
  · cases e
    refine ⟨g, rfl, hb, (Array.getElem?_eq_some_iff.1 hh).1, hc, hm, fun j u hu => ?_⟩
    rw [← ht, List.getElem?_take] at hu
    split at hu
    · unfold World.cell?
      rw [hh]
      simpa using hu
    · cases hu
theorem join_ex (b c : Nat) (w : World) (hb : b < w.heap.size) (h0 : w.cell? ⟨b, 0, none⟩ = some (.int .i64 1)) (h1 : w.cell? ⟨b, 1, none⟩ = some (.int .i64 1)) (h2 : w.cell? ⟨b, 2, none⟩ = some (.int .i64 0)) (h3 : w.cell? ⟨b, 3, none⟩ = some (.string ⟨#[]⟩)) (h4 : w.cell? ⟨b, 4, none⟩ = some (.bool false))
    (h5 : w.cell? ⟨b, 5, none⟩ = some (.int .i64 4)) (h6 : w.cell? ⟨b, 6, none⟩ = some (.int .i64 0)) (h7 : w.cell? ⟨b, 7, none⟩ = some (.int .i64 0)) (h8 : w.cell? ⟨b, 8, none⟩ = some (.string ⟨#[]⟩)) (h9 : w.cell? ⟨b, 9, none⟩ = some (.bool true)) :
    Calls Tryd.prog 11 #[.string ⟨#[32]⟩, .slice (some ⟨b, 0, none⟩) 2 c] w fun e w' => e = .returned (.string ⟨#[49, 32, 116, 114, 117, 101]⟩) ∧ Below w.heap.size w w' := by
  obtain ⟨i1, hi1, hz10, hz11, hz12⟩ := info_parts str_info
  have H1 := gives_unfold string_one
  have H2 := gives_unfold string_true
  go_enter Tryd.func11, Tryd.ntmps11
  go_wp2
  refine wp_loop_rounds 3 ?_
  rw [rounds_succ]
  go_wp2_with fail
  refine (H1.out.call _).mono ?_
  rintro e w1 ⟨rfl, hb1⟩
  have HB1 : Hid (Below w.heap.size w w1) := Lib.hid (bt (ba (Below.refl _ _)) hb1)
  have z1 : w.heap.size < w1.heap.size := by have := hb1.size; simp at this; omega
  clear hb1
  go_wp2_with (at_builtin
               go_must (refine wpList_append_any _ rfl (.tmp 14) (.tmp 17) _ rfl w.heap.size 9 i1 _ 1 16 Tryd.underlying46 hi1 hz10 hz11 hz12 rfl (by omega) (.slice none 0 0) 0 [] rfl (World.ownsRow_nil _ _ _ _) (w1.heap.size + 1) (some ⟨w1.heap.size, 0, none⟩) 1 1 [.string ⟨#[49]⟩] rfl ⟨rfl, fun _ => ⟨_, rfl, by simp, one_at _ _ rfl _ _⟩⟩ (by simp; rfl) (by simp only [maxLen]; omega) (by omega) (by simp; omega) ?_))
  intro v2 w2 hown hg _
  obtain ⟨A2, c2, rfl⟩ := own_slice hown
  have HB2 : Hid (Below w.heap.size w w2) := Lib.hid (Below.grown (ba HB1.out) hg (by simp; omega) (fun k hk => by cases hk))
  have HO2 := Lib.hid hown
  have z2 : w1.heap.size < w2.heap.size := by have := hg.size; simp at this; omega
  have g := fun o => HB2.out.cell (p := ⟨b, o, none⟩) hb
  have e5 := (g 5).trans h5
  have e6 := (g 6).trans h6
  have e7 := (g 7).trans h7
  have e8 := (g 8).trans h8
  have e9 := (g 9).trans h9
  have hb2 : b < w2.heap.size := by omega
  clear g hg hown h0 h1 h2 h3 h4 h5 h6 h7 h8 h9
  go_wp2
  rw [rounds_succ]
  go_wp2_with fail
  refine (H2.out.call _).mono ?_
  rintro e w3 ⟨rfl, hb3⟩
  have HO3 := Lib.hid (own_below ((own_below HO2.out (ba (Below.refl _ _)))) hb3)
  have HB3 : Hid (Below w.heap.size w w3) := Lib.hid (bt (ba HB2.out) hb3)
  have z3 : w2.heap.size < w3.heap.size := by have := hb3.size; simp at this; omega
  clear hb3 HO2 e5 e6 e7 e8 e9
  go_wp2_with (at_builtin
               go_must (refine wpList_append_any _ rfl (.tmp 14) (.tmp 17) _ rfl w.heap.size 9 i1 _ 1 16 Tryd.underlying46 hi1 hz10 hz11 hz12 rfl (by omega) (.slice A2 1 c2) 1 [.string ⟨#[49]⟩] rfl (HO3.out.alloc _) (w3.heap.size + 1) (some ⟨w3.heap.size, 0, none⟩) 1 1 [.string ⟨#[116, 114, 117, 101]⟩] rfl ⟨rfl, fun _ => ⟨_, rfl, by simp, one_at _ _ rfl _ _⟩⟩ (by simp; rfl) (by simp only [maxLen]; omega) (by omega) (by simp; omega) ?_))
  intro v4 w4 hown4 hg4 _
  obtain ⟨A4, c4, rfl⟩ := own_slice hown4
  have HB4 : Hid (Below w.heap.size w w4) := Lib.hid (Below.grown (ba HB3.out) hg4 (by simp; omega) (fun k hk => (own_lt HO3.out hk).1))
  obtain ⟨g, rfl, hg0, hg1, hgc, hgm, hgx⟩ := row_cells1 hown4 (by omega)
  have z4 : w3.heap.size < w4.heap.size := by have := hg4.size; simp at this; omega
  have HJ := Lib.hid (Tryd.strings_Join g 0 c4 [⟨#[49]⟩, ⟨#[116, 114, 117, 101]⟩] ⟨#[32]⟩ w4 (by
    intro j x hx
    match j, hx with
    | 0, hx => simp at hx; subst hx; exact hgx 0 _ rfl
    | 1, hx => simp at hx; subst hx; exact hgx 1 _ rfl) hg1 (by decide) hgc (by decide))
  clear hgx hg4 hown4 HO3
  go_wp2
  rw [rounds_succ]
  go_wp2_with fail
  refine HJ.out.mono ?_
  rintro e w5 ⟨rfl, hb5⟩
  have HB5 : Hid (Below w.heap.size w w5) := Lib.hid (bt HB4.out hb5)
  clear hb5
  go_wp2
  go_ret
  exact ⟨rfl, HB5.out⟩
end Go.Proofs.YtnkodafhjcjpjaaDoor
