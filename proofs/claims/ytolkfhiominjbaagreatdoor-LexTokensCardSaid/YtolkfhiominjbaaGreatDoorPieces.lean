/- A builder takes one text more; references; the reader of pieces where all is written out. No condition beyond what the theorems state. -/
import Derived.Test.YtolkfhiominjbaaGreatDoorWords
import Derived.Test.YtolkfhiominjbaaGreatDoorShelf
import Derived.Handy
import Derived.Lib.ConvBytes
import Derived.Lib.SmallJoins
import Derived.Test.YtolkfhiominjbaaGreatDoorValid
import Derived.Deep.DeepCutAuto
namespace Go.Proofs.YtolkfhiominjbaaGreatDoor
open Go.RowKit Go.Lib
set_option maxRecDepth 100000
set_option maxHeartbeats 4000000
theorem bsize : (Tryz.prog.info? 65).map (·.size) = some 2 := by kernel_rfl
theorem blies : liesAt Tryz.prog Tryz.prog.depth 65 (2 / Tryz.prog.cellsOf 65) 0 65 1 = true := by kernel_rfl
theorem byte_info : (Tryz.prog.info? 5).map (fun i => (i.zero, i.size, i.bytes)) = some (some (.int .u8 0), 1, 1) := by kernel_rfl
theorem check_old (b : Nat) (w : World) (h0 : w.cell? ⟨b, 0, none⟩ = some (.pointer (some ⟨b, 0, none⟩))) :
    Calls Tryz.prog 56 #[.pointer (some ⟨b, 0, none⟩)] w fun e w' => e = .returned (.tuple #[]) ∧ w' = w := by
  obtain ⟨j, hj, _⟩ := Option.map_eq_some_iff.1 bsize
  go_enter Tryz.func56, Tryz.ntmps56
  go_wp2
  rw [Lib.run_neq_ptr_same w _ Tryz.underlying62 hj]
  go_wp2
  go_end0
  exact ⟨rfl, rfl⟩
theorem check_new (b : Nat) (w : World) (h0 : w.cell? ⟨b, 0, none⟩ = some (.pointer none)) (hsh : w.shape? b = some (65, 2)) (hfz : w.frozen? ⟨b, 0, none⟩ = false) :
    Calls Tryz.prog 56 #[.pointer (some ⟨b, 0, none⟩)] w fun e w' => e = .returned (.tuple #[]) ∧ w' = w.setCell ⟨b, 0, none⟩ (.pointer (some ⟨b, 0, none⟩)) := by
  obtain ⟨j, hj, hjs⟩ := Option.map_eq_some_iff.1 bsize
  go_enter Tryz.func56, Tryz.ntmps56
  go_wp2
  rw [Lib.run_to_unsafe w ⟨b, 0, none⟩ Tryz.underlying62 Tryz.underlying102 hj (by rw [hjs]; decide) hsh (Nat.zero_lt_succ 1)]
  simp only [Result.andThen]
  rw [Oper.upon_value]
  go_wp2
  rw [run_callFunc_extern Tryz.func71 (by kernel_rfl) (by kernel_rfl) (by kernel_rfl) (e := Extern.AbiNoEscape.same) (by kernel_rfl)]
  rw [Lib.run_noEscape]
  simp only [Result.andThen]
  rw [Oper.upon_value]
  go_wp2
  rw [Lib.run_from_unsafe w ⟨b, 0, none⟩ Tryz.underlying102 Tryz.underlying62 hj hsh blies]
  simp only [Result.andThen]
  rw [Oper.upon_value]
  go_wp2
  go_end0
  exact ⟨rfl, rfl⟩
theorem check_any (B b : Nat) (bs : List Value) (w : World) (h : Lib.IsBuilder 65 5 B b bs w) :
    Calls Tryz.prog 56 #[.pointer (some ⟨b, 0, none⟩)] w fun e w' => e = .returned (.tuple #[]) ∧ Lib.BuilderAt 65 5 B b (.pointer (some ⟨b, 0, none⟩)) bs w' ∧ Below B w w' := by
  rcases h with h | h
  · exact (check_new b w h.cell0 h.shape h.frozen0).mono fun e w' ⟨h1, h2⟩ => by subst h1 h2; exact ⟨rfl, h.used _, (Below.refl B w).setCell (p := ⟨b, 0, none⟩) h.1 _⟩
  · exact (check_old b w h.cell0).mono fun e w' ⟨h1, h2⟩ => by subst h1 h2; exact ⟨rfl, h, Below.refl B _⟩
theorem write_any (B b : Nat) (bs : List Value) (s : ByteArray) (w : World) (h : Lib.IsBuilder 65 5 B b bs w) (hlen : bs.length + s.size ≤ 140737488355328) (hBw : B ≤ w.heap.size) :
    Calls Tryz.prog 31 #[.pointer (some ⟨b, 0, none⟩), .string s] w fun e w' => e = .returned (.tuple #[.int .i64 s.size, .nilIface]) ∧ Lib.BuilderAt 65 5 B b (.pointer (some ⟨b, 0, none⟩)) (bs ++ Lib.strCells s) w' ∧ Below B w w' := by
  obtain ⟨i0, hi, hz0, hz1, hz2⟩ := info_parts byte_info
  have e28 : ∀ args w, (callFunc 56 args).run Tryz.prog w = .ok (.enter 56 args) w := enters_of Tryz.func56 (by kernel_rfl) rfl
  go_enter Tryz.func31, Tryz.ntmps31
  go_wp2_with (go_at_fn 56; refine (check_any B b bs _ h).mono ?_)
  rintro e w1 ⟨rfl, h1, hb1⟩
  obtain ⟨hB, v, hbk, hown, hne⟩ := h1
  have c0 : w1.cell? ⟨b, 0, none⟩ = some (.pointer (some ⟨b, 0, none⟩)) := by rw [Lib.cell_of_heap hbk]; rfl
  have c1 : w1.cell? ⟨b, 1, none⟩ = some v := by rw [Lib.cell_of_heap hbk]; rfl
  have y1 := hb1.size
  go_wp2_with (at_builtin; refine Lib.wpList_append_own_string _ rfl _ _ 63 9 rfl B 5 i0 Tryz.underlying63 Tryz.underlying9 hi hz0 hz1 hz2 _ _ _ rfl hown s rfl (by unfold maxLen; omega) (by omega) (by omega) ?_)
  intro v2 w2 hown2 hgrow _
  have hlt : b < w1.heap.size := (Array.getElem?_eq_some_iff.1 hbk).1
  have hb2 : w2.heap[b]? = some (.cells #[.pointer (some ⟨b, 0, none⟩), v] 65 (0, 0)) := (hgrow.block b hlt (fun e => hne e.symm)).trans hbk
  have d0 : w2.cell? ⟨b, 0, none⟩ = some (.pointer (some ⟨b, 0, none⟩)) := by rw [Lib.cell_of_heap hb2]; rfl
  have d1 : w2.cell? ⟨b, 1, none⟩ = some v := by rw [Lib.cell_of_heap hb2]; rfl
  have f1 : w2.frozen? ⟨b, 1, none⟩ = false := Lib.frozen_of_heap hb2 1
  obtain ⟨A2, c2, rfl⟩ := own_slice hown2
  go_wp2
  go_ret2
  refine ⟨rfl, ?_, ?_⟩
  · exact Lib.BuilderAt.put (T := 65) (e := 5) hB hb2 (bs' := bs ++ Lib.strCells s) (by simpa [Lib.strCells_length] using hown2) (by decide)
  · exact (hb1.grown hgrow (by omega) (fun k hk => (own_lt hown hk).1)).setCell (p := ⟨b, 1, none⟩) hB _
theorem byteCells_snoc (l : List UInt8) (c : UInt8) : Lib.byteCells (l ++ [c]) = Lib.byteCells l ++ [.int .u8 (c.toNat : Int)] := by
  unfold Lib.byteCells; simp
theorem byteCells_len (l : List UInt8) : (Lib.byteCells l).length = l.length := by unfold Lib.byteCells; simp
theorem one_at (w : World) (g : Nat) (hg : g = w.heap.size) (x0 : Value) (t : TypeId) : ∀ j u, [x0][j]? = some u → (w.alloc (.cells #[x0] t)).cell? ((⟨g, 0, none⟩ : Addr).add j) = some u := by
  subst hg
  intro j u hu
  have h := heap_alloc_new w (.cells #[x0] t)
  have hj : ((⟨w.heap.size, 0, none⟩ : Addr).add j) = ⟨w.heap.size, j, none⟩ := by unfold Addr.add; split <;> simp_all
  rw [hj]
  unfold World.cell?
  rw [h]
  simpa using hu
/-- WriteByte. -/
theorem byte_any (B b : Nat) (l : List UInt8) (c : Int) (w : World) (h : Lib.IsBuilder 65 5 B b (Lib.byteCells l) w) (hlen : l.length + 1 ≤ 140737488355328) (hBw : B ≤ w.heap.size) :
    Calls Tryz.prog 34 #[.pointer (some ⟨b, 0, none⟩), .int .u8 c] w fun e w' => e = .returned .nilIface ∧ Lib.BuilderAt 65 5 B b (.pointer (some ⟨b, 0, none⟩)) (Lib.byteCells l ++ [.int .u8 c]) w' ∧ Below B w w' := by
  obtain ⟨i0, hi, hz0, hz1, hz2⟩ := info_parts byte_info
  have e42 : ∀ args w, (callFunc 56 args).run Tryz.prog w = .ok (.enter 56 args) w := enters_of Tryz.func56 (by kernel_rfl) rfl
  go_enter Tryz.func34, Tryz.ntmps34
  go_wp2_with (go_at_fn 56; refine (check_any B b (Lib.byteCells l) _ h).mono ?_)
  rintro e w1 ⟨rfl, h1, hb1⟩
  obtain ⟨hB, v, hbk, hown, hne⟩ := h1
  have c0 : w1.cell? ⟨b, 0, none⟩ = some (.pointer (some ⟨b, 0, none⟩)) := by rw [Lib.cell_of_heap hbk]; rfl
  have c1 : w1.cell? ⟨b, 1, none⟩ = some v := by rw [Lib.cell_of_heap hbk]; rfl
  have y1 := hb1.size
  rw [byteCells_len] at hown
  have hlt : b < w1.heap.size := (Array.getElem?_eq_some_iff.1 hbk).1
  go_wp2_with (at_builtin; go_must (refine wpList_append_any _ rfl (.tmp 11) (.tmp 13) _ rfl B 5 i0 _ 1 1 Tryz.underlying63 hi hz0 hz1 hz2 rfl (by omega) v l.length (Lib.byteCells l) rfl (hown.alloc _) (w1.heap.size + 1) (some ⟨w1.heap.size, 0, none⟩) 1 1 [.int .u8 c] rfl ⟨rfl, fun _ => ⟨_, rfl, by simp, one_at _ _ rfl _ _⟩⟩ (by simp; rfl) (by simp only [maxLen]; omega) (by omega) (by simp; omega) ?_))
  intro v2 w2 hown2 hgrow _
  have hb2 : w2.heap[b]? = some (.cells #[.pointer (some ⟨b, 0, none⟩), v] 65 (0, 0)) := (hgrow.block b (by simp; omega) (fun e => hne e.symm)).trans ((Below.heap_alloc w1 _ b hlt).trans hbk)
  have d0 : w2.cell? ⟨b, 0, none⟩ = some (.pointer (some ⟨b, 0, none⟩)) := by rw [Lib.cell_of_heap hb2]; rfl
  have d1 : w2.cell? ⟨b, 1, none⟩ = some v := by rw [Lib.cell_of_heap hb2]; rfl
  have f1 : w2.frozen? ⟨b, 1, none⟩ = false := Lib.frozen_of_heap hb2 1
  obtain ⟨A2, c2, rfl⟩ := own_slice hown2
  go_wp2
  go_ret
  refine ⟨rfl, ?_, ?_⟩
  · exact Lib.BuilderAt.put (T := 65) (e := 5) hB hb2 (bs' := Lib.byteCells l ++ [.int .u8 c]) (by rw [List.length_append, byteCells_len]; exact hown2) (by decide)
  · exact ((hb1.alloc (by omega) _).grown hgrow (by simp; omega) (fun k hk => (own_lt hown hk).1)).setCell (p := ⟨b, 1, none⟩) hB _
theorem append_38 (B : Nat) (A : Option Addr) (c : Nat) (w : World) (h : w.ownsRow B 5 1 (.slice A 0 c) 0 []) (hBw : B ≤ w.heap.size) :
    Calls Tryz.prog 105 #[.slice A 0 c, .int .i32 38] w fun e w' => ∃ A' c', e = .returned (.slice A' 1 c') ∧ w'.ownsRow B 5 1 (.slice A' 1 c') 1 [.int .u8 38] ∧ (w.alloc (.cells #[.int .u8 38] 5)).grownBy w' (Value.slice A 0 c).ownBlock := by
  obtain ⟨i0, hi, hz0, hz1, hz2⟩ := info_parts byte_info
  go_enter Tryz.func105, Tryz.ntmps105
  go_wp2_with (at_builtin; go_must (refine wpList_append_any _ rfl (.tmp 8) (.tmp 11) _ rfl B 5 i0 _ 1 1 Tryz.underlying63 hi hz0 hz1 hz2 rfl (by omega) (.slice A 0 c) 0 [] rfl (h.alloc _) (w.heap.size + 1) (some ⟨w.heap.size, 0, none⟩) 1 1 [.int .u8 38] rfl ⟨rfl, fun _ => ⟨_, rfl, by simp, one_at _ _ rfl _ _⟩⟩ (by simp; rfl) (by simp only [maxLen]; omega) (by omega) (by simp; omega) ?_))
  intro v2 w2 hown2 hgrow _
  obtain ⟨A2, c2, rfl⟩ := own_slice hown2
  have HO := Lib.hid hown2
  have HG := Lib.hid hgrow
  clear hown2 hgrow
  go_wp2
  go_ret
  exact ⟨A2, c2, rfl, HO.out, HG.out⟩
/-- WriteRune at the character 38. -/
theorem rune_38 (B b : Nat) (w : World) (h : Lib.IsBuilder 65 5 B b [] w) (hBw : B ≤ w.heap.size) :
    Calls Tryz.prog 95 #[.pointer (some ⟨b, 0, none⟩), .int .i32 38] w fun e w' => e = .returned (.tuple #[.int .i64 1, .nilIface]) ∧ Lib.BuilderAt 65 5 B b (.pointer (some ⟨b, 0, none⟩)) [.int .u8 38] w' ∧ Below B w w' := by
  obtain ⟨i0, hi, hz0, hz1, hz2⟩ := info_parts byte_info
  have e42 : ∀ args w, (callFunc 56 args).run Tryz.prog w = .ok (.enter 56 args) w := enters_of Tryz.func56 (by kernel_rfl) rfl
  go_enter Tryz.func95, Tryz.ntmps95
  go_wp2_with (go_at_fn 56; refine (check_any B b [] _ h).mono ?_)
  rintro e w1 ⟨rfl, h1, hb1⟩
  obtain ⟨hB, v, hbk, hown, hne⟩ := h1
  have c0 : w1.cell? ⟨b, 0, none⟩ = some (.pointer (some ⟨b, 0, none⟩)) := by rw [Lib.cell_of_heap hbk]; rfl
  have c1 : w1.cell? ⟨b, 1, none⟩ = some v := by rw [Lib.cell_of_heap hbk]; rfl
  have y1 := hb1.size
  have hlt : b < w1.heap.size := (Array.getElem?_eq_some_iff.1 hbk).1
  obtain ⟨A1, cc1, rfl⟩ := own_slice hown
  have HAP := Lib.hid (append_38 B A1 cc1 w1 hown (by omega))
  go_wp2_with fail
  refine HAP.out.mono ?_
  rintro e w2 ⟨A2, c2, rfl, hown2, hgrow⟩
  have hb2 : w2.heap[b]? = some (.cells #[.pointer (some ⟨b, 0, none⟩), .slice A1 0 cc1] 65 (0, 0)) := (hgrow.block b (by simp; omega) (fun e => hne e.symm)).trans ((Below.heap_alloc w1 _ b hlt).trans hbk)
  have d0 : w2.cell? ⟨b, 0, none⟩ = some (.pointer (some ⟨b, 0, none⟩)) := by rw [Lib.cell_of_heap hb2]; rfl
  have d1 : w2.cell? ⟨b, 1, none⟩ = some (.slice A1 0 cc1) := by rw [Lib.cell_of_heap hb2]; rfl
  have f1 : w2.frozen? ⟨b, 1, none⟩ = false := Lib.frozen_of_heap hb2 1
  have HO := Lib.hid hown2
  have HBB : Hid (Below B w w2) := Lib.hid ((hb1.alloc (by omega) _).grown hgrow (by simp; omega) (fun k hk => (own_lt hown hk).1))
  clear hown2 hgrow
  go_wp2
  go_ret2
  refine ⟨rfl, ?_, ?_⟩
  · exact Lib.BuilderAt.put (T := 65) (e := 5) hB hb2 (bs' := [.int .u8 38]) HO.out (by decide)
  · exact HBB.out.setCell (p := ⟨b, 1, none⟩) hB _
end Go.Proofs.YtolkfhiominjbaaGreatDoor
namespace Go.Proofs.YtolkfhiominjbaaGreatDoor
open Go.RowKit Go.Lib
set_option maxRecDepth 100000
set_option maxHeartbeats 8000000
theorem uint_38' : Gives 93 #[.string ⟨#[51, 56]⟩, .int .i64 10, .int .i64 31] (.tuple #[.int .u64 38, .nilIface]) := by
  intro w
  have hcv := Lib.run_convert_string_bytes (P := Tryz.prog) w 9 63 5 ⟨#[51, 56]⟩ (u := .string) Tryz.underlying9 Tryz.underlying63 Tryz.underlying5
  have hB : ∀ j, j < 2 → (Lib.bytesWorld w 5 ⟨#[51, 56]⟩).cell? ⟨w.heap.size, j, none⟩ = some (.int .u8 ((([51, 56] : List UInt8)).getD j 0).toNat) := fun j hj => Lib.bytesWorld_cell w 5 ⟨#[51, 56]⟩ j hj
  have hbw : Below w.heap.size w (Lib.bytesWorld w 5 ⟨#[51, 56]⟩) := Go.Joins.below_bytesWorld _ w 5 _ (Nat.le_refl _)
  obtain ⟨W1, hW1⟩ : ∃ W1, W1 = Lib.bytesWorld w 5 ⟨#[51, 56]⟩ := ⟨_, rfl⟩
  rw [← hW1] at hcv hB hbw
  have b0 : W1.cell? ⟨w.heap.size, 0, none⟩ = some (.int .u8 51) := hB 0 (by decide)
  have b1 : W1.cell? ⟨w.heap.size, 1, none⟩ = some (.int .u8 56) := hB 1 (by decide)
  have HBW := Lib.hid hbw
  clear hW1 hB hbw
  go_enter Tryz.func93, Tryz.ntmps93
  go_wp2
  go_rounds 3
  all_goals go_ret2
  all_goals exact ⟨rfl, HBW.out⟩
theorem uint_38 : Gives 81 #[.string ⟨#[51, 56]⟩, .int .i64 10, .int .i64 31] (.tuple #[.int .u64 38, .nilIface]) := by
  have H := gives_unfold uint_38'
  intro w
  go_enter Tryz.func81, Tryz.ntmps81
  go_wp2_with fail
  refine (H.out.call _).mono ?_
  rintro e w1 ⟨rfl, hb⟩
  go_wp2
  go_ret2
  exact ⟨rfl, hb⟩
theorem listed_38 : Gives 41 #[.int .i64 38] (.bool true) := by
  intro w
  go_enter Tryz.func41, Tryz.ntmps41
  go_wp2
  go_ret
  exact ⟨rfl, Below.refl _ _⟩
theorem builder_carry {B b : Nat} {bs : List Value} {w w' : World} (h : Lib.IsBuilder 65 5 B b bs w) (hb : Below w.heap.size w w') : Lib.IsBuilder 65 5 B b bs w' := by
  have one : ∀ p, Lib.BuilderAt 65 5 B b p bs w → Lib.BuilderAt 65 5 B b p bs w' := fun p ⟨h1, v, h2, h3, h4⟩ =>
    ⟨h1, v, (hb.block b ((Array.getElem?_eq_some_iff.1 h2).1)).trans h2, own_below h3 hb, h4⟩
  exact h.elim (fun h => .inl (one _ h)) (fun h => .inr (one _ h))
theorem text_38 (b : Nat) (w : World) (h0 : w.cell? ⟨b, 0, none⟩ = some (.int .i64 38)) : Calls Tryz.prog 82 #[.slice (some ⟨b, 0, none⟩) 1 1] w fun e w' => e = .returned (.tuple #[.string ⟨#[38]⟩, .int .i64 0]) ∧ Below w.heap.size w w' := by
  have H := gives_unfold listed_38
  have hb : b < w.heap.size := World.block_lt_of_cell? w _ h0
  have HB0 : Hid (Lib.IsBuilder 65 5 w.heap.size w.heap.size [] (w.alloc (.cells #[.pointer none, .slice none 0 0] 65))) := Lib.hid (Lib.fresh_isBuilder 65 5 w)
  go_enter Tryz.func82, Tryz.ntmps82
  go_wp2
  refine wp_loop_rounds 2 ?_
  rw [rounds_succ]
  go_wp2_with fail
  refine (H.out.call _).mono ?_
  rintro e w1 ⟨rfl, hb1⟩
  have HB1 : Hid (Below w.heap.size w w1) := Lib.hid (bt (ba (Below.refl _ _)) hb1)
  have HI := Lib.hid (builder_carry HB0.out hb1)
  clear hb1
  go_wp2_with fail
  refine (rune_38 w.heap.size w.heap.size w1 HI.out HB1.out.size).mono ?_
  rintro e w2 ⟨rfl, hI2, hb2⟩
  have HI2 := Lib.hid hI2
  have HB2 : Hid (Below w.heap.size w w2) := Lib.hid (HB1.out.trans hb2)
  clear hI2 hb2
  go_wp2
  rw [rounds_succ]
  go_wp2_with fail
  refine (Tryz.Builder_String_any w.heap.size w.heap.size [38] _ (.inr HI2.out) HB2.out.size).mono ?_
  rintro e w3 ⟨rfl, hb3⟩
  have HB3 : Hid (Below w.heap.size w w3) := Lib.hid (HB2.out.trans hb3)
  clear hb3
  go_wp2
  go_ret2
  exact ⟨rfl, HB3.out⟩
theorem numbered_38 : Gives 70 #[.string ⟨#[51, 56]⟩, .int .i64 10] (.tuple #[.string ⟨#[38]⟩, .bool true]) := by
  have H := gives_unfold uint_38
  intro w
  go_enter Tryz.func70, Tryz.ntmps70
  go_wp2_with fail
  refine (H.out.call _).mono ?_
  rintro e w1 ⟨rfl, hb1⟩
  have HB1 := Lib.hid hb1
  clear hb1
  go_wp2_with fail
  refine (text_38 w1.heap.size _ (by simp)).mono ?_
  rintro e w2 ⟨rfl, hb2⟩
  have HB2 := Lib.hid (bt (ba HB1.out) hb2)
  clear hb2
  go_wp2
  go_ret2
  exact ⟨rfl, HB2.out⟩
theorem meaning_38 : Gives 55 #[.string ⟨#[35, 51, 56]⟩] (.tuple #[.string ⟨#[38]⟩, .bool true]) := by
  have H := gives_unfold numbered_38
  intro w
  go_enter Tryz.func55, Tryz.ntmps55
  go_wp2_with fail
  refine (Tryz.strings_CutPrefix ⟨#[35, 51, 56]⟩ ⟨#[35]⟩ w).mono ?_
  rintro e w1 ⟨rfl, rfl⟩
  have e1 : (Lib.trimPrefix (⟨#[35, 51, 56]⟩ : ByteArray).data.toList (⟨#[35]⟩ : ByteArray).data.toList).toArray = #[51, 56] := by decide
  have e2 : Lib.hasPrefix (⟨#[35, 51, 56]⟩ : ByteArray).data.toList (⟨#[35]⟩ : ByteArray).data.toList = true := by decide
  rw [e1, e2]
  clear e1 e2
  go_wp2_with fail
  refine (Tryz.strings_CutPrefix ⟨#[51, 56]⟩ ⟨#[120]⟩ w1).mono ?_
  rintro e w2 ⟨rfl, rfl⟩
  have e2 : Lib.hasPrefix (⟨#[51, 56]⟩ : ByteArray).data.toList (⟨#[120]⟩ : ByteArray).data.toList = false := by decide
  rw [e2]
  clear e2
  go_wp2_with fail
  refine (H.out.call _).mono ?_
  rintro e w3 ⟨rfl, hb3⟩
  go_wp2
  go_ret2
  exact ⟨rfl, hb3⟩
theorem meaning_lt : Gives 55 #[.string ⟨#[108, 116]⟩] (.tuple #[.string ⟨#[60]⟩, .bool true]) := by
  intro w
  go_enter Tryz.func55, Tryz.ntmps55
  go_wp2
  go_ret2
  exact ⟨rfl, Below.refl _ _⟩
theorem index_at (body t : List UInt8) (h : ∀ x ∈ body, x ≠ 59) : Lib.index (body ++ 59 :: t) [59] = (body.length : Int) := by
  induction body with
  | nil => simp [Lib.index]
  | cons b body ih =>
    have hb := h b (.head _)
    have ih' := ih fun x hx => h x (.tail _ hx)
    rw [List.cons_append, Lib.index, ih']
    have e1 : ([59] : List UInt8).isPrefixOf (b :: (body ++ 59 :: t)) = false := by
      simp [List.isPrefixOf]
      exact fun e => hb e.symm
    have e2 : (((body.length : Nat) : Int) == -1) = false := by rw [beq_eq_false_iff_ne]; omega
    rw [e1, e2]
    simp
theorem cut_at (body t : List UInt8) (h : ∀ x ∈ body, x ≠ 59) : Lib.cut (body ++ 59 :: t) [59] = (body, t, true) := by
  unfold Lib.cut
  rw [index_at body t h, if_pos (by omega)]
  simp
/-- Cut where what stands ahead of the semicolon has a meaning. -/
theorem cut_any (body t m : List UInt8) (hbd : ∀ x ∈ body, x ≠ 59) (H0 : Gives 55 #[.string (ba' body)] (.tuple #[.string (ba' m), .bool true])) (hlen : body.length + t.length ≤ 1000000) (w : World) (v : Int) (hm : w.cell? ⟨2, 0, none⟩ = some (.int .i64 v)) :
    Calls Tryz.prog 30 #[.string (ba' (body ++ 59 :: t))] w fun e w' => e = .returned (.tuple #[.string (ba' m), .string (ba' t), .bool true]) ∧ Below w.heap.size w w' := by
  have H := gives_unfold H0
  clear H0
  have hcut : Lib.cut (ba' (body ++ 59 :: t)).data.toList (⟨#[59]⟩ : ByteArray).data.toList = (body, t, true) := by
    show Lib.cut (body ++ 59 :: t) [59] = _
    exact cut_at body t hbd
  go_enter Tryz.func30, Tryz.ntmps30
  go_wp2_with fail
  refine (Tryz.strings_Cut (ba' (body ++ 59 :: t)) ⟨#[59]⟩ v w (by rw [size_ba]; simp; omega) hm).mono ?_
  rintro e w1 ⟨rfl, nq, rfl⟩
  rw [hcut]
  simp only
  clear hcut hbd
  go_wp2_with fail
  refine (H.out.call _).mono ?_
  rintro e w2 ⟨rfl, hb2⟩
  have HB2 : Hid (Below w.heap.size w w2) := Lib.hid (bt (bd (Below.refl _ _)) hb2)
  clear hb2
  go_wp2
  go_ret3
  exact ⟨rfl, HB2.out⟩
end Go.Proofs.YtolkfhiominjbaaGreatDoor
namespace Go.Proofs.YtolkfhiominjbaaGreatDoor
open Go.RowKit Go.Lib
theorem good_ok (l : List UInt8) (h : ¬ ((decodeL l).1 = 65533 ∧ (decodeL l).2 = 1)) : runeOk (decodeL l).1 := by
  rw [decodeL_N] at h ⊢
  unfold runeOk
  have := UInt8.toNat_lt (l.getD 0 0)
  rcases decodeN_shape l.length (l.getD 0 0).toNat (l.getD 1 0).toNat (l.getD 2 0).toNat (l.getD 3 0).toNat with ⟨c, e⟩ | ⟨a1, a2, a3, cv, e⟩ | ⟨a1, a2, a3, a4, cv, cs, e⟩ | ⟨a1, a2, a3, a4, a5, cv, cw, e⟩ | e
  · rw [e]; simp only; omega
  · rw [e]; simp only; omega
  · rw [e]; simp only; omega
  · rw [e]; simp only; omega
  · rw [e] at h; exact absurd ⟨rfl, rfl⟩ h
/-- the first step of a valid list, whatever follows -/
theorem step_append (a b : List UInt8) (hne : a ≠ []) (h : ¬ ((decodeL a).1 = 65533 ∧ (decodeL a).2 = 1)) : decodeL (a ++ b) = decodeL a ∧ (a ++ b).drop (decodeL a).2 = a.drop (decodeL a).2 ++ b := by
  have he : enc (decodeL a).1 = a.take (decodeL a).2 := encode_decode a hne h
  have hle := decodeL_le a hne
  have e : a ++ b = enc (decodeL a).1 ++ (a.drop (decodeL a).2 ++ b) := by rw [he, ← List.append_assoc, List.take_append_drop]
  have hlen : (enc (decodeL a).1).length = (decodeL a).2 := by rw [he, List.length_take]; omega
  constructor
  · rw [e, decode_enc _ (good_ok a h), hlen]
  · rw [List.drop_append_of_le_length hle]
theorem valid_append : ∀ (n : Nat) (a b : List UInt8), a.length ≤ n → validD a = true → validD (a ++ b) = validD b ∧ runes (a ++ b) = runes a ++ runes b
  | 0, a, b, h, _ => by
    have : a = [] := List.eq_nil_of_length_eq_zero (by omega)
    subst this; exact ⟨rfl, rfl⟩
  | n + 1, a, b, h, hv => by
    by_cases ha : a = []
    · subst ha; exact ⟨rfl, rfl⟩
    · obtain ⟨g1, g2⟩ := valid_cut a ha hv
      obtain ⟨s1, s2⟩ := step_append a b ha g1
      have hlt := drop_lt a ha
      obtain ⟨i1, i2⟩ := valid_append n (a.drop (decodeL a).2) b (by omega) g2
      have hne : a ++ b ≠ [] := by simp [ha]
      constructor
      · rw [validD_step _ hne, s1, if_neg g1, s2, i1]
      · rw [runes_step _ hne, s1, s2, i2, runes_step a ha]; rfl
theorem validD_append {a : List UInt8} (b : List UInt8) (h : validD a = true) : validD (a ++ b) = validD b := (valid_append _ a b (Nat.le_refl _) h).1
theorem runes_append {a : List UInt8} (b : List UInt8) (h : validD a = true) : runes (a ++ b) = runes a ++ runes b := (valid_append _ a b (Nat.le_refl _) h).2
theorem validX_append {a : List UInt8} (b : List UInt8) (h : validX a = true) : validX (a ++ b) = validX b := by
  unfold validX at h ⊢
  obtain ⟨h1, h2⟩ := Bool.and_eq_true_iff.1 h
  rw [validD_append b h1, runes_append b h1, List.all_append, h2]
  simp
theorem dec_low (l : List UInt8) (h : (l.getD 0 0).toNat < 128) : decodeL l = ((l.getD 0 0).toNat, 1) := by
  rw [decodeL_N]; exact decodeN_ascii _ _ _ _ _ h
theorem one_byte (b : UInt8) (h : b.toNat < 128) : runes [b] = [b.toNat] ∧ validD [b] = true := by
  have e := dec_low [b] (by simpa using h)
  constructor
  · rw [runes_step _ (by simp), e]
    simp [runes_nil]
  · rw [validD_step _ (by simp), e]
    simp only [List.getD_cons_zero]
    rw [if_neg (by omega)]; rfl
theorem validX_nil : validX [] = true := rfl
theorem validX_byte (b : UInt8) (h : b.toNat < 128) (hx : xmlN b.toNat = true) : validX [b] = true := by
  obtain ⟨h1, h2⟩ := one_byte b h
  unfold validX
  rw [h1, h2]; simp [hx]
/-- What one byte is written as. -/
def escB (q c : UInt8) : List UInt8 := if c = q then [q, q] else if c = 38 then [38, 35, 51, 56, 59] else [c]
def esc (q : UInt8) (l : List UInt8) : List UInt8 := l.flatMap (escB q)
theorem esc_cons (q c : UInt8) (l : List UInt8) : esc q (c :: l) = escB q c ++ esc q l := rfl
theorem esc_app (q : UInt8) (a b : List UInt8) : esc q (a ++ b) = esc q a ++ esc q b := List.flatMap_append
theorem esc_high (q : UInt8) (hq : q.toNat < 128) : ∀ l : List UInt8, (∀ x ∈ l, 128 ≤ x.toNat) → esc q l = l
  | [], _ => rfl
  | c :: l, h => by
    have hc := h c (.head _)
    have e : escB q c = [c] := by
      unfold escB
      rw [if_neg (fun e => by subst e; omega), if_neg (fun e => by subst e; simp at hc)]
    rw [esc_cons, e, esc_high q hq l fun x hx => h x (.tail _ hx)]
    rfl
theorem enc_high (r : Nat) (h : runeOk r) (hr : 127 < r) : ∀ x ∈ enc r, 128 ≤ x.toNat := by
  have hr2 : r ≤ 1114111 := by unfold runeOk at h; omega
  rw [encZ r h, if_neg (by omega)]
  intro x hx
  split at hx
  · simp only [List.mem_cons, List.not_mem_nil, or_false] at hx
    rcases hx with rfl | rfl <;> rw [u8N _ (by omega)] <;> omega
  · split at hx
    · simp only [List.mem_cons, List.not_mem_nil, or_false] at hx
      rcases hx with rfl | rfl | rfl <;> rw [u8N _ (by omega)] <;> omega
    · simp only [List.mem_cons, List.not_mem_nil, or_false] at hx
      rcases hx with rfl | rfl | rfl | rfl <;> rw [u8N _ (by omega)] <;> omega
theorem validX_enc (r : Nat) (h : runeOk r) (hx : xmlN r = true) : validX (enc r) = true := by
  have hd := decode_enc r h []
  rw [List.append_nil] at hd
  have hne : enc r ≠ [] := by
    rw [encZ r h]; split
    · simp
    · split
      · simp
      · split <;> simp
  have hb : ¬ (r = 65533 ∧ (enc r).length = 1) := by
    rintro ⟨rfl, h1⟩
    rw [encZ _ h] at h1
    simp at h1
  unfold validX
  rw [validD_step _ hne, runes_step _ hne, hd]
  simp only
  rw [if_neg hb, List.drop_length, runes_nil]
  simp [hx]
  rfl
theorem esc_valid (q : UInt8) (hq : q = 34 ∨ q = 39) : ∀ (n : Nat) (l : List UInt8), l.length ≤ n → validX l = true → validX (esc q l) = true
  | 0, l, h, _ => by
    have : l = [] := List.eq_nil_of_length_eq_zero (by omega)
    subst this; rfl
  | n + 1, l, h, hv => by
    by_cases hl : l = []
    · subst hl; rfl
    · have hv' := hv
      unfold validX at hv
      obtain ⟨h1, h2⟩ := Bool.and_eq_true_iff.1 hv
      obtain ⟨g1, g2⟩ := valid_cut l hl h1
      have hlt := drop_lt l hl
      rw [runes_step l hl, List.all_cons] at h2
      obtain ⟨x1, x2⟩ := Bool.and_eq_true_iff.1 h2
      have hrest : validX (l.drop (decodeL l).2) = true := by unfold validX; rw [g2, x2]; rfl
      have ih := esc_valid q hq n (l.drop (decodeL l).2) (by omega) hrest
      have ok := good_ok l g1
      have he : enc (decodeL l).1 = l.take (decodeL l).2 := encode_decode l hl g1
      have hlq : l = enc (decodeL l).1 ++ l.drop (decodeL l).2 := by rw [he, List.take_append_drop]
      rw [hlq, esc_app]
      by_cases hr : 127 < (decodeL l).1
      · have hq1 : q.toNat < 128 := by rcases hq with rfl | rfl <;> decide
        rw [esc_high q hq1 _ (enc_high _ ok hr), validX_append _ (validX_enc _ ok x1)]
        exact ih
      · obtain ⟨r, hre⟩ : ∃ r, (decodeL l).1 = r := ⟨_, rfl⟩
        rw [hre] at hr x1 ok ⊢
        have e1 : enc r = [r.toUInt8] := by rw [encZ r ok, if_pos (by omega)]
        have hn : (r.toUInt8).toNat = r := u8N r (by omega)
        have hv1 : validX (escB q r.toUInt8) = true := by
          unfold escB
          split
          · rcases hq with rfl | rfl <;> decide
          · split
            · decide
            · exact validX_byte _ (by omega) (by rw [hn]; exact x1)
        rw [e1, esc_cons]
        show validX ((escB q r.toUInt8 ++ []) ++ _) = true
        rw [List.append_nil, validX_append _ hv1]
        exact ih
end Go.Proofs.YtolkfhiominjbaaGreatDoor
namespace Go.Proofs.YtolkfhiominjbaaGreatDoor
open Go.RowKit Go.Lib
set_option maxRecDepth 100000
set_option maxHeartbeats 8000000
theorem indexByte_has : ∀ (l : List UInt8) (c : UInt8), decide (0 ≤ Lib.indexByte l c) = l.contains c
  | [], c => by simp [Lib.indexByte]
  | b :: l, c => by
    have ih := indexByte_has l c
    rw [Lib.indexByte, List.contains_cons]
    by_cases h : b = c
    · subst h; simp
    · have h1 : (b == c) = false := by simpa using h
      have h2 : (c == b) = false := by simpa using fun e => h e.symm
      rw [h1, h2, Bool.false_or, ← ih]
      rcases Lib.indexByte l c with n | n
      · simp; omega
      · rcases n with _ | n
        · simp
        · have : ((Int.negSucc (n + 1)) == -1) = false := by rw [beq_eq_false_iff_ne]; intro e; omega
          simp [this]; omega
theorem has_any (l : List UInt8) (c : UInt8) : Gives 32 #[.string (ba' l), .int .u8 (c.toNat : Int)] (.bool (l.contains c)) := by
  intro w
  have hi : Lib.indexByte (ba' l).data.toList ((c.toNat : Int)).toNat.toUInt8 = Lib.indexByte l c := by
    show Lib.indexByte l _ = _
    congr 1
    rw [Int.toNat_natCast]
    exact UInt8.toNat_inj.1 (u8N _ (UInt8.toNat_lt c))
  obtain ⟨r, hr⟩ : ∃ r, Lib.indexByte l c = r := ⟨_, rfl⟩
  have hd := indexByte_has l c
  rw [hr] at hi hd
  obtain ⟨b, hb⟩ : ∃ b, l.contains c = b := ⟨_, rfl⟩
  rw [hb] at hd ⊢
  have hd2 : decide (r ≥ 0) = b := hd
  clear hb hr
  go_enter Tryz.func32, Tryz.ntmps32
  go_wp2_with fail
  refine (Tryz.strings_IndexByte (ba' l) (c.toNat : Int) w).mono ?_
  rintro e w1 ⟨rfl, rfl⟩
  rw [hi]
  clear hi
  go_wp2
  go_ret
  exact ⟨rfl, Below.refl _ _⟩
theorem says_no (d s : List UInt8) (c : Int) : Gives 35 #[.agg #[.string (ba' d), .string (ba' s), .bool false], .int .u8 c] (.int .u8 c) := by
  intro w
  go_enter Tryz.func35, Tryz.ntmps35
  go_wp2
  go_ret
  exact ⟨rfl, ba (Below.refl _ _)⟩
end Go.Proofs.YtolkfhiominjbaaGreatDoor
namespace Go.Proofs.YtolkfhiominjbaaGreatDoor
open Go.RowKit Go.Lib
set_option maxRecDepth 100000
set_option maxHeartbeats 8000000
def sLen : Value → Nat
  | .string b => b.size
  | _ => 0
theorem has_none (c : UInt8) : Gives 32 #[.string (ba' []), .int .u8 (c.toNat : Int)] (.bool false) := has_any [] c
theorem has_same (q : UInt8) : Gives 32 #[.string (ba' [q]), .int .u8 (q.toNat : Int)] (.bool true) := by
  have := has_any [q] q
  simpa using this
theorem has_other (q a : UInt8) (h : a ≠ q) : Gives 32 #[.string (ba' [q]), .int .u8 (a.toNat : Int)] (.bool false) := by
  have := has_any [q] a
  have e : [q].contains a = false := by simpa using h
  rwa [e] at this
theorem sz_cons (c : UInt8) (t : List UInt8) : 0 < (ba' (c :: t)).size := by rw [size_ba]; simp
theorem at_cons (c : UInt8) (t : List UInt8) (h : 0 < (ba' (c :: t)).size) : (ba' (c :: t))[0]'h = c := rfl
theorem nat_ne {a b : UInt8} (h : a ≠ b) : ((a.toNat : Int) == (b.toNat : Int)) = false := by
  rw [beq_eq_false_iff_ne]
  intro e
  exact h (UInt8.toNat_inj.1 (by omega))
theorem cut_drop (l : List UInt8) (k : Nat) : (ba' l).extract k (ba' l).size = ba' (l.drop k) := by
  have h := extract_drop (ba' l) k
  apply ByteArray.ext
  apply Array.toList_inj.1
  rw [h]
  rfl
theorem esc_len (q : UInt8) : ∀ l : List UInt8, l.length ≤ (esc q l).length
  | [] => Nat.le_refl _
  | a :: l => by
    have := esc_len q l
    rw [esc_cons, List.length_append, List.length_cons]
    have : 1 ≤ (escB q a).length := by
      unfold escB
      split
      · simp
      · split <;> simp
    omega
/-- What is left, and what was read: escaped text ahead of an end. -/
theorem read_any (q : UInt8) (hq : q = 34 ∨ q = 39) (s tl : List UInt8) (htl : tl = [] ∨ ∃ c t, tl = q :: c :: t ∧ c ≠ q) (hlen : (esc q s ++ tl).length ≤ 100000) (w : World) (v : Int) (hm : w.cell? ⟨2, 0, none⟩ = some (.int .i64 v)) :
    Calls Tryz.prog 20 #[.agg #[.string (ba' [q]), .string (ba' []), .bool false], .string (ba' (esc q s ++ tl))] w fun e w' => e = .returned (.tuple #[.string (ba' s), .string (ba' tl), .bool true]) ∧ Below w.heap.size w w' := by
  have hsl : s.length ≤ 100000 := by
    have := esc_len q s
    rw [List.length_append] at hlen
    omega
  have hg2 : 2 < w.heap.size := World.block_lt_of_cell? w ⟨2, 0, none⟩ hm
  have HM := Lib.hid hm
  have HB0 : Hid (Lib.IsBuilder 65 5 (w.heap.size + 1) (w.heap.size + 1) [] ((w.alloc (.cells #[.string (ba' [q]), .string (ba' []), .bool false] 47)).alloc (.cells #[.pointer none, .slice none 0 0] 65))) := Lib.hid (by
    have := Lib.fresh_isBuilder 65 5 (w.alloc (.cells #[.string (ba' [q]), .string (ba' []), .bool false] 47))
    simpa using this)
  obtain ⟨txt, htxt⟩ : ∃ txt, esc q s ++ tl = txt := ⟨_, rfl⟩
  have HT := Lib.hid htxt
  rw [htxt] at hlen ⊢
  clear htxt hm
  go_enter Tryz.func20, Tryz.ntmps20
  go_wp2
  go_loopw [5] (fun s5 wx => ∃ (j : Nat) (l : List UInt8), s5 = .string (ba' l) ∧ l.length ≤ txt.length ∧ j ≤ s.length ∧ Hid (l = esc q (s.drop j) ++ tl) ∧ Hid (Lib.IsBuilder 65 5 (w.heap.size + 1) (w.heap.size + 1) (Lib.byteCells (s.take j)) wx) ∧ wx.cell? ⟨w.heap.size, 0, none⟩ = some (.string (ba' [q])) ∧ wx.cell? ⟨w.heap.size, 1, none⟩ = some (.string (ba' [])) ∧ wx.cell? ⟨w.heap.size, 2, none⟩ = some (.bool false) ∧ w.heap.size + 1 < wx.heap.size ∧ Below w.heap.size w wx) (fun s5 _ => sLen s5)
  case atStart => exact ⟨0, txt, rfl, Nat.le_refl _, Nat.zero_le _, Lib.hid (by simpa using HT.out.symm), Lib.hid HB0.out, by simp, by simp, by simp, by simp, ba (ba (Below.refl _ _))⟩
  case round =>
    obtain ⟨j, l, rfl, hl, hj, hL, hI, x0, x1, x2, hz, hBW⟩ := hrel
    have HIB := Lib.hid hBW
    have hm2 : wr.cell? ⟨2, 0, none⟩ = some (.int .i64 v) := (hBW.cell (p := ⟨2, 0, none⟩) hg2).trans HM.out
    rcases hd : s.drop j with _ | ⟨a, r⟩
    · have HE : Hid (s.take j = s) := Lib.hid (List.take_of_length_le (List.drop_eq_nil_iff.1 hd))
      rw [hd] at hL
      have hlt : l = tl := hL.out
      subst hlt
      clear hL hd
      rcases htl with rfl | ⟨c, t, rfl, hcq⟩
      · have hne : (ba' []).toList.isEmpty = true := by rw [toList_ba]; rfl
        go_wp2_with fail
        refine (Tryz.Builder_String_any (w.heap.size + 1) (w.heap.size + 1) (s.take j) wr hI.out (by omega)).mono ?_
        rintro e w1 ⟨rfl, hb1⟩
        have HB1 : Hid (Below w.heap.size w w1) := Lib.hid (HIB.out.trans (hb1.mono (by omega)))
        clear hb1
        go_wp2
        go_ret3
        refine ⟨?_, HB1.out⟩
        rw [HE.out]
        rfl
      · have hne : (ba' (q :: c :: t)).toList.isEmpty = false := by rw [toList_ba]; rfl
        have hsz := sz_cons q (c :: t)
        have H1 := gives_unfold (has_none q)
        have H2 := gives_unfold (has_same q)
        have g38 : ((q.toNat : Int) == 38) = false := by rcases hq with rfl | rfl <;> rfl
        go_upto_region 6 with fail
        rw [at_cons]
        go_wp2_with fail
        refine (H1.out.call _).mono ?_
        rintro e w1 ⟨rfl, hb1⟩
        have HI1 := Lib.hid (builder_carry hI.out hb1)
        have x01 := (hb1.cell (p := ⟨w.heap.size, 0, none⟩) (by simp only; omega)).trans x0
        have HB1 : Hid (Below w.heap.size w w1) := Lib.hid (bt HIB.out hb1)
        have z1 := Nat.lt_of_lt_of_le hz hb1.size
        clear hb1 x0 x1 x2 hm2
        go_wp2_with fail
        refine (H2.out.call _).mono ?_
        rintro e w2 ⟨rfl, hb2⟩
        have HI2 := Lib.hid (builder_carry HI1.out hb2)
        have HB2 : Hid (Below w.heap.size w w2) := Lib.hid (bt HB1.out hb2)
        have z2 := Nat.lt_of_lt_of_le z1 hb2.size
        have h1 : 1 < (ba' (q :: c :: t)).size := by rw [size_ba]; simp
        have g1 : ((((ba' (q :: c :: t))[1]'h1).toNat : Int) == (q.toNat : Int)) = false := nat_ne hcq
        clear hb2 x01
        go_wp2_with fail
        refine (Tryz.Builder_String_any (w.heap.size + 1) (w.heap.size + 1) (s.take j) w2 HI2.out (by omega)).mono ?_
        rintro e w3 ⟨rfl, hb3⟩
        have HB3 : Hid (Below w.heap.size w w3) := Lib.hid (HB2.out.trans (hb3.mono (by omega)))
        clear hb3
        go_wp2
        go_ret3
        refine ⟨?_, HB3.out⟩
        rw [HE.out]
        rfl
    · have hjl : j < s.length := by
        rcases Nat.lt_or_ge j s.length with h | h
        · exact h
        · rw [List.drop_eq_nil_of_le h] at hd; cases hd
      have HTK : Hid (s.take (j + 1) = s.take j ++ [a]) := Lib.hid (by
        have h := List.drop_eq_getElem_cons hjl
        rw [h] at hd
        cases hd
        rw [List.take_add_one, List.getElem?_eq_getElem hjl]
        rfl)
      have HDR : Hid (s.drop (j + 1) = r) := Lib.hid (by
        have h := List.drop_eq_getElem_cons hjl
        rw [h] at hd
        cases hd
        rfl)
      rw [hd] at hL
      have hlt : l = escB q a ++ (esc q r ++ tl) := by rw [hL.out, esc_cons, List.append_assoc]
      obtain ⟨X, hX⟩ : ∃ X, esc q r ++ tl = X := ⟨_, rfl⟩
      have HXX : Hid (X = esc q (s.drop (j + 1)) ++ tl) := Lib.hid (by rw [HDR.out, hX])
      rw [hX] at hlt
      clear hL hX hd HDR
      by_cases haq : a = q
      · subst haq
        have e1 : escB a a = [a, a] := by unfold escB; rw [if_pos rfl]
        rw [e1] at hlt
        have hlt2 : l = a :: a :: X := hlt
        clear hlt e1
        subst hlt2
        have hne : (ba' (a :: a :: X)).toList.isEmpty = false := by rw [toList_ba]; rfl
        have hsz := sz_cons a (a :: X)
        have H1 := gives_unfold (has_none a)
        have H2 := gives_unfold (has_same a)
        have g38 : ((a.toNat : Int) == 38) = false := by rcases hq with rfl | rfl <;> rfl
        have HEX : Hid ((ba' (a :: a :: X)).extract 2 (ba' (a :: a :: X)).size = ba' X) := Lib.hid (cut_drop (a :: a :: X) 2)
        have h1 : 1 < (ba' (a :: a :: X)).size := by rw [size_ba]; simp
        have h2 : ¬ (ba' (a :: a :: X)).size < 2 := by rw [size_ba]; simp
        have g1 : ((((ba' (a :: a :: X))[1]'h1).toNat : Int) == (a.toNat : Int)) = true := by simp; rfl
        go_upto_region 6 with fail
        rw [at_cons]
        go_wp2_with fail
        refine (H1.out.call _).mono ?_
        rintro e w1 ⟨rfl, hb1⟩
        have HI1 := Lib.hid (builder_carry hI.out hb1)
        have f1 := fun o => hb1.cell (p := ⟨w.heap.size, o, none⟩) (by simp only; omega)
        have x01 := (f1 0).trans x0
        have x11 := (f1 1).trans x1
        have x21 := (f1 2).trans x2
        have HB1 : Hid (Below w.heap.size w w1) := Lib.hid (bt HIB.out hb1)
        have z1 := Nat.lt_of_lt_of_le hz hb1.size
        clear hb1 x0 x1 x2 hm2 f1
        go_wp2_with fail
        refine (H2.out.call _).mono ?_
        rintro e w2 ⟨rfl, hb2⟩
        have HI2 := Lib.hid (builder_carry HI1.out hb2)
        have f2 := fun o => hb2.cell (p := ⟨w.heap.size, o, none⟩) (by simp only; omega)
        have x02 := (f2 0).trans x01
        have x12 := (f2 1).trans x11
        have x22 := (f2 2).trans x21
        have HB2 : Hid (Below w.heap.size w w2) := Lib.hid (bt HB1.out hb2)
        have z2 := Nat.lt_of_lt_of_le z1 hb2.size
        clear hb2 x01 x11 x21 f2
        go_wp2_with fail
        refine (byte_any (w.heap.size + 1) (w.heap.size + 1) (s.take j) (a.toNat : Int) w2 HI2.out (by rw [List.length_take]; omega) (by omega)).mono ?_
        rintro e w4 ⟨rfl, hI4, hb4⟩
        have HI4 : Hid (Lib.IsBuilder 65 5 (w.heap.size + 1) (w.heap.size + 1) (Lib.byteCells (s.take (j + 1))) w4) := Lib.hid (.inr (by rw [HTK.out, byteCells_snoc]; exact hI4))
        have f4 := fun o => hb4.cell (p := ⟨w.heap.size, o, none⟩) (by simp only; omega)
        have x04 := (f4 0).trans x02
        have x14 := (f4 1).trans x12
        have x24 := (f4 2).trans x22
        have HB4 : Hid (Below w.heap.size w w4) := Lib.hid (HB2.out.trans (hb4.mono (by omega)))
        have z4 : w.heap.size + 1 < w4.heap.size := Nat.lt_of_lt_of_le z2 hb4.size
        clear hI4 hb4 x02 x12 x22 f4
        go_wp2
        rw [HEX.out]
        go_roundw
        case rel => exact ⟨j + 1, X, rfl, by simp only [List.length_cons] at hl; omega, by omega, HXX, HI4, x04, x14, x24, z4, HB4.out⟩
        case measure => simp only [sLen, size_ba, List.length_cons]; omega
      · by_cases ha38 : a = 38
        · subst ha38
          have e1 : escB q 38 = [38, 35, 51, 56, 59] := by unfold escB; rw [if_neg haq, if_pos rfl]
          rw [e1] at hlt
          have hlt2 : l = 38 :: (35 :: 51 :: 56 :: 59 :: X) := hlt
          clear hlt e1
          subst hlt2
          have hXl : X.length ≤ 100000 := by simp only [List.length_cons] at hl; omega
          have hne : (ba' (38 :: (35 :: 51 :: 56 :: 59 :: X))).toList.isEmpty = false := by rw [toList_ba]; rfl
          have hsz := sz_cons 38 (35 :: 51 :: 56 :: 59 :: X)
          have HEX : Hid ((ba' (38 :: (35 :: 51 :: 56 :: 59 :: X))).extract 1 (ba' (38 :: (35 :: 51 :: 56 :: 59 :: X))).size = ba' ([35, 51, 56] ++ 59 :: X)) := Lib.hid (cut_drop (38 :: (35 :: 51 :: 56 :: 59 :: X)) 1)
          have HCUT : Hid (Calls Tryz.prog 30 #[.string (ba' ([35, 51, 56] ++ 59 :: X))] wr fun e w' => e = .returned (.tuple #[.string (ba' [38]), .string (ba' X), .bool true]) ∧ Below wr.heap.size wr w') := Lib.hid (cut_any [35, 51, 56] X [38] (by decide) meaning_38 (by simp only [List.length_cons, List.length_nil]; omega) wr v hm2)
          go_upto_region 6 with fail
          rw [at_cons]
          have g38 : (((38 : UInt8).toNat : Int) == 38) = true := rfl
          go_wp2_with fail
          rw [HEX.out]
          refine HCUT.out.mono ?_
          rintro e w1 ⟨rfl, hb1⟩
          have HI1 := Lib.hid (builder_carry hI.out hb1)
          have f1 := fun o => hb1.cell (p := ⟨w.heap.size, o, none⟩) (by simp only; omega)
          have x01 := (f1 0).trans x0
          have x11 := (f1 1).trans x1
          have x21 := (f1 2).trans x2
          have HB1 : Hid (Below w.heap.size w w1) := Lib.hid (bt HIB.out hb1)
          have z1 := Nat.lt_of_lt_of_le hz hb1.size
          clear hb1 x0 x1 x2 hm2 f1 HCUT
          go_wp2_with fail
          refine (write_any (w.heap.size + 1) (w.heap.size + 1) (Lib.byteCells (s.take j)) (ba' [38]) w1 HI1.out (by rw [byteCells_len, List.length_take, size_ba]; simp only [List.length_cons, List.length_nil]; omega) (by omega)).mono ?_
          rintro e w4 ⟨rfl, hI4, hb4⟩
          have HI4 : Hid (Lib.IsBuilder 65 5 (w.heap.size + 1) (w.heap.size + 1) (Lib.byteCells (s.take (j + 1))) w4) := Lib.hid (.inr (by rw [HTK.out, byteCells_snoc]; exact hI4))
          have f4 := fun o => hb4.cell (p := ⟨w.heap.size, o, none⟩) (by simp only; omega)
          have x04 := (f4 0).trans x01
          have x14 := (f4 1).trans x11
          have x24 := (f4 2).trans x21
          have HB4 : Hid (Below w.heap.size w w4) := Lib.hid (HB1.out.trans (hb4.mono (by omega)))
          have z4 : w.heap.size + 1 < w4.heap.size := Nat.lt_of_lt_of_le z1 hb4.size
          clear hI4 hb4 x01 x11 x21 f4
          go_wp2
          go_roundw
          case rel => exact ⟨j + 1, X, rfl, by simp only [List.length_cons] at hl; omega, by omega, HXX, HI4, x04, x14, x24, z4, HB4.out⟩
          case measure => simp only [sLen, size_ba, List.length_cons]; omega
        · have e1 : escB q a = [a] := by unfold escB; rw [if_neg haq, if_neg ha38]
          rw [e1] at hlt
          have hlt2 : l = a :: X := hlt
          clear hlt e1
          subst hlt2
          have hne : (ba' (a :: X)).toList.isEmpty = false := by rw [toList_ba]; rfl
          have hsz := sz_cons a X
          have H1 := gives_unfold (has_none a)
          have H2 := gives_unfold (has_other q a haq)
          have H3 := gives_unfold (says_no [q] [] (a.toNat : Int))
          have g38 : ((a.toNat : Int) == 38) = false := nat_ne (b := 38) ha38
          have HEX : Hid ((ba' (a :: X)).extract 1 (ba' (a :: X)).size = ba' X) := Lib.hid (cut_drop (a :: X) 1)
          go_upto_region 6 with fail
          rw [at_cons]
          go_wp2_with fail
          refine (H1.out.call _).mono ?_
          rintro e w1 ⟨rfl, hb1⟩
          have HI1 := Lib.hid (builder_carry hI.out hb1)
          have f1 := fun o => hb1.cell (p := ⟨w.heap.size, o, none⟩) (by simp only; omega)
          have x01 := (f1 0).trans x0
          have x11 := (f1 1).trans x1
          have x21 := (f1 2).trans x2
          have HB1 : Hid (Below w.heap.size w w1) := Lib.hid (bt HIB.out hb1)
          have z1 := Nat.lt_of_lt_of_le hz hb1.size
          clear hb1 x0 x1 x2 hm2 f1
          go_wp2_with fail
          refine (H2.out.call _).mono ?_
          rintro e w2 ⟨rfl, hb2⟩
          have HI2 := Lib.hid (builder_carry HI1.out hb2)
          have f2 := fun o => hb2.cell (p := ⟨w.heap.size, o, none⟩) (by simp only; omega)
          have x02 := (f2 0).trans x01
          have x12 := (f2 1).trans x11
          have x22 := (f2 2).trans x21
          have HB2 : Hid (Below w.heap.size w w2) := Lib.hid (bt HB1.out hb2)
          have z2 := Nat.lt_of_lt_of_le z1 hb2.size
          clear hb2 x01 x11 x21 f2
          go_wp2_with fail
          refine (H3.out.call _).mono ?_
          rintro e w3 ⟨rfl, hb3⟩
          have HI3 := Lib.hid (builder_carry HI2.out hb3)
          have f3 := fun o => hb3.cell (p := ⟨w.heap.size, o, none⟩) (by simp only; omega)
          have x03 := (f3 0).trans x02
          have x13 := (f3 1).trans x12
          have x23 := (f3 2).trans x22
          have HB3 : Hid (Below w.heap.size w w3) := Lib.hid (bt HB2.out hb3)
          have z3 := Nat.lt_of_lt_of_le z2 hb3.size
          clear hb3 x02 x12 x22 f3
          go_wp2_with fail
          refine (byte_any (w.heap.size + 1) (w.heap.size + 1) (s.take j) (a.toNat : Int) w3 HI3.out (by rw [List.length_take]; omega) (by omega)).mono ?_
          rintro e w4 ⟨rfl, hI4, hb4⟩
          have HI4 : Hid (Lib.IsBuilder 65 5 (w.heap.size + 1) (w.heap.size + 1) (Lib.byteCells (s.take (j + 1))) w4) := Lib.hid (.inr (by rw [HTK.out, byteCells_snoc]; exact hI4))
          have f4 := fun o => hb4.cell (p := ⟨w.heap.size, o, none⟩) (by simp only; omega)
          have x04 := (f4 0).trans x03
          have x14 := (f4 1).trans x13
          have x24 := (f4 2).trans x23
          have HB4 : Hid (Below w.heap.size w w4) := Lib.hid (HB3.out.trans (hb4.mono (by omega)))
          have z4 : w.heap.size + 1 < w4.heap.size := Nat.lt_of_lt_of_le z3 hb4.size
          clear hI4 hb4 x03 x13 x23 f4
          go_wp2
          rw [HEX.out]
          go_roundw
          case rel => exact ⟨j + 1, X, rfl, by simp only [List.length_cons] at hl; omega, by omega, HXX, HI4, x04, x14, x24, z4, HB4.out⟩
          case measure => simp only [sLen, size_ba, List.length_cons]; omega
end Go.Proofs.YtolkfhiominjbaaGreatDoor
namespace Go.Proofs.YtolkfhiominjbaaGreatDoor
open Go.RowKit Go.Lib
set_option maxRecDepth 100000
set_option maxHeartbeats 8000000
/-- The bytes of a character. -/
def encU (x : Int) : List UInt8 := Lib.encodeRune x
theorem xml_bounds {x : Int} (h : xmlB x = true) : 9 ≤ x ∧ x ≤ 1114111 := by
  have := (xmlB_iff x).1 h
  unfold xmlP at this
  omega
theorem runeCells_enc (x : Int) : Lib.runeCells x = Lib.byteCells (encU x) := by
  unfold encU
  rw [← Lib.byteCells_encodeRune]
theorem text_no (x : Int) (hx : xmlB x = false) (b : Nat) (w : World) (h0 : w.cell? ⟨b, 0, none⟩ = some (.int .i64 x)) : Calls Tryz.prog 82 #[.slice (some ⟨b, 0, none⟩) 1 1] w fun e w' => e = .returned (.tuple #[.string ⟨#[]⟩, .int .i64 2]) ∧ Below w.heap.size w w' := by
  have H := listed_any x
  rw [hx] at H
  have HL := Lib.hid H
  have hb : b < w.heap.size := World.block_lt_of_cell? w _ h0
  clear hx H
  go_enter Tryz.func82, Tryz.ntmps82
  go_wp2
  refine wp_loop_rounds 2 ?_
  rw [rounds_succ]
  go_wp2_with fail
  refine (HL.out _).mono ?_
  rintro e w1 ⟨rfl, rfl⟩
  go_wp2
  go_ret2
  exact ⟨rfl, ba (Below.refl _ _)⟩
theorem text_ok (x : Int) (hx : xmlB x = true) (b : Nat) (w : World) (h0 : w.cell? ⟨b, 0, none⟩ = some (.int .i64 x)) : Calls Tryz.prog 82 #[.slice (some ⟨b, 0, none⟩) 1 1] w fun e w' => e = .returned (.tuple #[.string (ba' (encU x)), .int .i64 0]) ∧ Below w.heap.size w w' := by
  have H := listed_any x
  rw [hx] at H
  obtain ⟨x0, x1⟩ := xml_bounds hx
  have HL := Lib.hid H
  have hb : b < w.heap.size := World.block_lt_of_cell? w _ h0
  have HB0 : Hid (Lib.IsBuilderF 65 5 w.heap.size w.heap.size [] (w.alloc (.cells #[.pointer none, .slice none 0 0] 65))) := Lib.hid (Lib.IsBuilderF.of (Lib.fresh_isBuilder 65 5 w))
  have hw1 : IntKind.i32.wrap x = x := by rw [IntKind.wrap_i32]; omega
  clear hx H
  go_enter Tryz.func82, Tryz.ntmps82
  go_wp2
  refine wp_loop_rounds 2 ?_
  rw [rounds_succ]
  go_wp2_with fail
  refine (HL.out _).mono ?_
  rintro e w1 ⟨rfl, rfl⟩
  go_wp2_with fail
  refine (Tryz.Builder_WriteRune_k w.heap.size w.heap.size [] x (by omega) (by omega) _ HB0.out (by decide) (by simp)).mono ?_
  rintro e w2 ⟨rfl, hI2, hb2, _⟩
  have HI2 : Hid (Lib.IsBuilderF 65 5 w.heap.size w.heap.size (Lib.byteCells (encU x)) w2) := Lib.hid (.inr (by rw [← runeCells_enc]; simpa using hI2))
  have HB2 : Hid (Below w.heap.size w w2) := Lib.hid ((ba (Below.refl _ _)).trans hb2)
  clear hI2 hb2
  go_wp2
  rw [rounds_succ]
  go_wp2_with fail
  refine (Tryz.Builder_String_any_f w.heap.size w.heap.size (encU x) _ HI2.out HB2.out.size).mono ?_
  rintro e w3 ⟨rfl, _, hb3⟩
  have HB3 : Hid (Below w.heap.size w w3) := Lib.hid (HB2.out.trans hb3)
  clear hb3
  go_wp2
  go_ret2
  exact ⟨rfl, HB3.out⟩
end Go.Proofs.YtolkfhiominjbaaGreatDoor
